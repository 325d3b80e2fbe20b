/- A call that fails lays its fault in a block that was not there; results of structs stand in a block of the call's own. -/
import Derived.Test.YtahlkhaehlemcaaGreatDoorFails
set_option linter.unusedSimpArgs false
set_option linter.unusedVariables false
namespace Go.Proofs.YtahlkhaehlemcaaGreatDoor.errs
open Go.RowKit

/-- A fault in a block that was not there, and nothing that was there turned. -/
def Fell (w : World) (e : Ending) (w' : World) (k a : Int) (rest : Value → Value) : Prop :=
  ∃ bb, e = .returned (rest (.iface 56 (.pointer (some ⟨bb, 0, none⟩)))) ∧ w.heap.size ≤ bb ∧ FaultAt w' (.iface 56 (.pointer (some ⟨bb, 0, none⟩))) k a .nilIface ∧ Below w.heap.size w w'
theorem Fell.opened {w : World} {k a : Int} {rest : Value → Value} (e : Ending) (w' : World) (h : Fell w e w' k a rest) :
    ∃ bb, e = .returned (rest (.iface 56 (.pointer (some ⟨bb, 0, none⟩)))) ∧ Aside (w.heap.size ≤ bb ∧ FaultAt w' (.iface 56 (.pointer (some ⟨bb, 0, none⟩))) k a .nilIface ∧ Below w.heap.size w w') := h
theorem Fell.from {w w1 w2 : World} {e : Ending} {k a : Int} {rest : Value → Value} (hb : Below w.heap.size w w1) (h : Fell w1 e w2 k a rest) : Fell w e w2 k a rest := by
  obtain ⟨bb, h1, h2, h3, h4⟩ := h
  exact ⟨bb, h1, Nat.le_trans hb.size h2, h3, hb.trans (h4.mono hb.size)⟩
theorem fail_fell (k a : Int) (w : World) :
    Calls Tryz.prog 35 #[.int .i64 k, .int .i64 a] w fun e w' => ∃ bb, e = .returned (.iface 56 (.pointer (some ⟨bb, 0, none⟩))) ∧ Aside (w.heap.size ≤ bb ∧ FaultAt w' (.iface 56 (.pointer (some ⟨bb, 0, none⟩))) k a .nilIface ∧ Below w.heap.size w w') := by
  refine (fail_any k a w).mono ?_
  rintro e w' ⟨rfl, rfl⟩
  exact ⟨_, rfl, Nat.le_refl _, fault_new w k a .nilIface, (Below.refl _ _).alloc (Nat.le_refl _) _⟩
/-- A fault stands where another block is written. -/
theorem FaultAt.away {w : World} {inner : Value} {k a : Int} {bb : Nat} (h : FaultAt w (.iface 56 (.pointer (some ⟨bb, 0, none⟩))) k a inner) {p : Addr} (hp : p.block ≠ bb) (x : Value) : FaultAt (w.setCell p x) (.iface 56 (.pointer (some ⟨bb, 0, none⟩))) k a inner := by
  obtain ⟨b, e, h0, h1, h2⟩ := h
  obtain rfl : bb = b := by simpa using e
  have hq : ∀ o, p ≠ (⟨bb, o, none⟩ : Addr) := fun o e => hp (by rw [e])
  exact ⟨bb, rfl, (World.cell?_setCell_other _ _ _ _ (hq 0)).trans h0, (World.cell?_setCell_other _ _ _ _ (hq 1)).trans h1, (World.cell?_setCell_other _ _ _ _ (hq 2)).trans h2⟩

/-- Cells of a block, not frozen. -/
def Cel (w : World) (b o : Nat) (v : Value) : Prop := w.cell? ⟨b, o, none⟩ = some v ∧ w.frozen? ⟨b, o, none⟩ = false
theorem Cel.below {w w' : World} {b o : Nat} {v : Value} (h : Cel w b o v) (hb : Keeps w w') : Cel w' b o v :=
  ⟨(hb.cell (p := ⟨b, o, none⟩) (lt_of_cell h.1)).trans h.1, (hb.frozen (p := ⟨b, o, none⟩) (lt_of_cell h.1)).trans h.2⟩
theorem keeps_new (w : World) (o : Obj) : Keeps w (w.alloc o) := (Below.refl _ _).alloc (Nat.le_refl _) _
theorem cel_new (w : World) (cs : Array Value) (T : TypeId) (o : Nat) (v : Value) (h : cs[o]? = some v) : Cel (w.alloc (.cells cs T)) w.heap.size o v :=
  ⟨by rw [World.cell?_alloc_at _ _ _ _ rfl]; exact h, by rw [World.frozen?_alloc_at _ _ _ _ rfl]⟩
end Go.Proofs.YtahlkhaehlemcaaGreatDoor.errs
