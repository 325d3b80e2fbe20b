/- Kind and At of the statements: of a fault they tell its own number and place, of no error 0 and -1; api.Fail and api.Wrap lay one new block each. What was there stays. -/
import Derived.Test.YtmgdkdohadaknaaDoorErrs
namespace Go.Proofs.YtmgdkdohadaknaaDoor.errs
open Go.RowKit

/-- A fault: a pointer to a block that holds its number, its place, and the error that it came from. -/
def FaultAt (w : World) (v : Value) (k a : Int) (inner : Value) : Prop :=
  ∃ b, v = .iface 54 (.pointer (some ⟨b, 0, none⟩)) ∧ w.cell? ⟨b, 0, none⟩ = some (.int .i64 k) ∧ w.cell? ⟨b, 1, none⟩ = some (.int .i64 a) ∧ w.cell? ⟨b, 2, none⟩ = some inner

theorem FaultAt.below {B : Nat} {w w' : World} {v : Value} {k a : Int} {inner : Value} (h : FaultAt w v k a inner) (hb : Below B w w') (hB : w.heap.size ≤ B) : FaultAt w' v k a inner := by
  obtain ⟨b, rfl, h0, h1, h2⟩ := h
  have hl := lt_of_cell h0
  have hl : b < B := Nat.lt_of_lt_of_le hl hB
  exact ⟨b, rfl, (hb.cell (p := ⟨b, 0, none⟩) hl).trans h0, (hb.cell (p := ⟨b, 1, none⟩) hl).trans h1, (hb.cell (p := ⟨b, 2, none⟩) hl).trans h2⟩

/-- A new fault in a new block. -/
theorem fault_new (w : World) (k a : Int) (inner : Value) : FaultAt (w.alloc (.cells #[.int .i64 k, .int .i64 a, inner] 56)) (.iface 54 (.pointer (some ⟨w.heap.size, 0, none⟩))) k a inner :=
  ⟨w.heap.size, rfl, by rw [World.cell?_alloc_at _ _ _ _ rfl]; rfl, by rw [World.cell?_alloc_at _ _ _ _ rfl]; rfl, by rw [World.cell?_alloc_at _ _ _ _ rfl]; rfl⟩

theorem fail_any (k a : Int) (w : World) :
    Calls Tryd.prog 18 #[.int .i64 k, .int .i64 a] w fun e w' => e = .returned (.iface 54 (.pointer (some ⟨w.heap.size, 0, none⟩))) ∧ w.alloc (.cells #[.int .i64 k, .int .i64 a, .nilIface] 56) = w' := by
  go_enter Tryd.func18, Tryd.ntmps18
  go_wp2
  go_ret
  exact ⟨rfl, rfl⟩
theorem wrap_any (k a : Int) (p : Value) (w : World) :
    Calls Tryd.prog 19 #[.int .i64 k, .int .i64 a, .iface 54 p] w fun e w' => e = .returned (.iface 54 (.pointer (some ⟨w.heap.size, 0, none⟩))) ∧ w.alloc (.cells #[.int .i64 k, .int .i64 a, .iface 54 p] 56) = w' := by
  go_enter Tryd.func19, Tryd.ntmps19
  go_wp2
  go_ret
  exact ⟨rfl, rfl⟩



end Go.Proofs.YtmgdkdohadaknaaDoor.errs
