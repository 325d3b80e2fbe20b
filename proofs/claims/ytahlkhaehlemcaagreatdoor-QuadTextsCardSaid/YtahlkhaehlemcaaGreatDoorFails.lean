/- A call that fails lays one fault in a new block, and turns nothing else: the words for that. -/
import Derived.Test.YtahlkhaehlemcaaGreatDoorCalm
namespace Go.Proofs.YtahlkhaehlemcaaGreatDoor.errs
open Go.RowKit

/-- A fault in the newest block, and nothing else turned. -/
def Failed (w : World) (e : Ending) (w' : World) (k a : Int) (rest : Value → Value) : Prop := ∃ v, e = .returned (rest v) ∧ FaultAt w' v k a .nilIface ∧ Below w.heap.size w w'
theorem failed_new (w w1 : World) (hb : Below w.heap.size w w1) (k a : Int) (rest : Value → Value) : Failed w (.returned (rest (.iface 56 (.pointer (some ⟨w1.heap.size, 0, none⟩))))) (w1.alloc (.cells #[.int .i64 k, .int .i64 a, .nilIface] 60)) k a rest :=
  ⟨_, rfl, fault_new w1 k a .nilIface, hb.alloc hb.size _⟩
theorem Failed.from {w w1 w2 : World} {e : Ending} {k a : Int} {rest : Value → Value} (hb : Below w.heap.size w w1) (h : Failed w1 e w2 k a rest) : Failed w e w2 k a rest := by
  obtain ⟨v, h1, h2, h3⟩ := h
  exact ⟨v, h1, h2, hb.trans (h3.mono hb.size)⟩
/-- The value of a failed call written out, for a walk. -/
theorem Failed.opened {w : World} {k a : Int} {rest : Value → Value} (e : Ending) (w' : World) (h : Failed w e w' k a rest) :
    ∃ bb, e = .returned (rest (.iface 56 (.pointer (some ⟨bb, 0, none⟩)))) ∧ Aside (FaultAt w' (.iface 56 (.pointer (some ⟨bb, 0, none⟩))) k a .nilIface ∧ Below w.heap.size w w') := by
  obtain ⟨v, rfl, ⟨bb, rfl, q⟩, hb⟩ := h
  exact ⟨bb, rfl, ⟨bb, rfl, q⟩, hb⟩
theorem Failed.bare {w : World} {k a : Int} (e : Ending) (w' : World) (h : Failed w e w' k a id) :
    ∃ bb, e = .returned (.iface 56 (.pointer (some ⟨bb, 0, none⟩))) ∧ Aside (FaultAt w' (.iface 56 (.pointer (some ⟨bb, 0, none⟩))) k a .nilIface ∧ Below w.heap.size w w') := Failed.opened e w' h
/-- A fault stands where another block is written. -/
theorem FaultAt.setCell {w : World} {v inner : Value} {k a : Int} (h : FaultAt w v k a inner) {p : Addr} {u : Value} (hu : w.cell? ⟨p.block, 0, none⟩ = some u) (hn : ∀ n, u ≠ .int .i64 n) (x : Value) : FaultAt (w.setCell p x) v k a inner := by
  obtain ⟨b, rfl, h0, h1, h2⟩ := h
  have hne : p.block ≠ b := by
    rintro rfl
    rw [h0] at hu
    exact hn k (Option.some.inj hu).symm
  have hq : ∀ o, p ≠ (⟨b, o, none⟩ : Addr) := fun o e => hne (by rw [e])
  exact ⟨b, rfl, (World.cell?_setCell_other _ _ _ _ (hq 0)).trans h0, (World.cell?_setCell_other _ _ _ _ (hq 1)).trans h1, (World.cell?_setCell_other _ _ _ _ (hq 2)).trans h2⟩
end Go.Proofs.YtahlkhaehlemcaaGreatDoor.errs
