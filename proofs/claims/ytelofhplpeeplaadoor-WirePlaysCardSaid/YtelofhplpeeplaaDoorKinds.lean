/- Kind and At of the statements: of a fault they tell its own number and place, of no error 0 and -1; api.Fail and api.Wrap lay one new block each. What was there stays. -/
import Derived.Test.YtelofhplpeeplaaDoorErrs
namespace Go.Proofs.YtelofhplpeeplaaDoor.errs
open Go.RowKit

/-- A fault: a pointer to a block that holds its number, its place, and the error that it came from. -/
def FaultAt (w : World) (v : Value) (k a : Int) (inner : Value) : Prop :=
  ∃ b, v = .iface 65 (.pointer (some ⟨b, 0, none⟩)) ∧ w.cell? ⟨b, 0, none⟩ = some (.int .i64 k) ∧ w.cell? ⟨b, 1, none⟩ = some (.int .i64 a) ∧ w.cell? ⟨b, 2, none⟩ = some inner

theorem FaultAt.below {B : Nat} {w w' : World} {v : Value} {k a : Int} {inner : Value} (h : FaultAt w v k a inner) (hb : Below B w w') (hB : w.heap.size ≤ B) : FaultAt w' v k a inner := by
  obtain ⟨b, rfl, h0, h1, h2⟩ := h
  have hl := lt_of_cell h0
  have hl : b < B := Nat.lt_of_lt_of_le hl hB
  exact ⟨b, rfl, (hb.cell (p := ⟨b, 0, none⟩) hl).trans h0, (hb.cell (p := ⟨b, 1, none⟩) hl).trans h1, (hb.cell (p := ⟨b, 2, none⟩) hl).trans h2⟩

/-- A new fault in a new block. -/
theorem fault_new (w : World) (k a : Int) (inner : Value) : FaultAt (w.alloc (.cells #[.int .i64 k, .int .i64 a, inner] 69)) (.iface 65 (.pointer (some ⟨w.heap.size, 0, none⟩))) k a inner :=
  ⟨w.heap.size, rfl, by rw [World.cell?_alloc_at _ _ _ _ rfl]; rfl, by rw [World.cell?_alloc_at _ _ _ _ rfl]; rfl, by rw [World.cell?_alloc_at _ _ _ _ rfl]; rfl⟩

theorem fail_any (k a : Int) (w : World) :
    Calls Tryd.prog 25 #[.int .i64 k, .int .i64 a] w fun e w' => e = .returned (.iface 65 (.pointer (some ⟨w.heap.size, 0, none⟩))) ∧ w.alloc (.cells #[.int .i64 k, .int .i64 a, .nilIface] 69) = w' := by
  go_enter Tryd.func25, Tryd.ntmps25
  go_wp2
  go_ret
  exact ⟨rfl, rfl⟩
theorem wrap_any (k a : Int) (p : Value) (w : World) :
    Calls Tryd.prog 27 #[.int .i64 k, .int .i64 a, .iface 65 p] w fun e w' => e = .returned (.iface 65 (.pointer (some ⟨w.heap.size, 0, none⟩))) ∧ w.alloc (.cells #[.int .i64 k, .int .i64 a, .iface 65 p] 69) = w' := by
  go_enter Tryd.func27, Tryd.ntmps27
  go_wp2
  go_ret
  exact ⟨rfl, rfl⟩

theorem asWorld_below {B : Nat} (w : World) (e t : Addr) (hB : B ≤ w.heap.size) (ht : B ≤ t.block) : Below B w (asWorld w e t) := by
  unfold asWorld
  exact (((((Below.refl B w).alloc hB _).alloc (by simp; omega) _).alloc (by simp; omega) _).alloc (by simp; omega) _).setCell ht _
theorem asWorld_target (w : World) (e t : Addr) (old : Value) (h : w.cell? t = some old) : (asWorld w e t).cell? t = some (.pointer (some e)) := by
  have htl := lt_of_cell h
  unfold asWorld
  generalize hw : (((w.alloc (.cells #[.pointer (some t)] 67)).alloc (.cells #[.pointer (some ⟨4, 67, none⟩), .pointer (some ⟨w.heap.size, 0, none⟩), .int .u64 150] 85)).alloc (.cells #[.pointer (some ⟨4, 67, none⟩), .pointer (some ⟨w.heap.size, 0, none⟩), .int .u64 150] 85)).alloc (.cells #[.pointer (some e)] 65) = W
  have hc : W.cell? t = some old := by
    rw [← hw, World.cell?_alloc_lt _ _ t (by simp; omega), World.cell?_alloc_lt _ _ t (by simp; omega), World.cell?_alloc_lt _ _ t (by simp; omega), World.cell?_alloc_lt _ _ t htl]; exact h
  exact World.cell?_setCell_same W t _ hc

theorem kind_nil (w : World) : Calls Tryd.prog 9 #[.nilIface] w fun e w' => e = .returned (.int .i64 0) ∧ w = w' := by
  go_enter Tryd.func9, Tryd.ntmps9
  go_wp2
  go_ret
  exact ⟨rfl, rfl⟩

theorem Laid.alloc {w : World} (h : Laid w) (o : Obj) : Laid (w.alloc o) := by
  unfold Laid at *
  rw [World.cell?_alloc_lt _ _ _ (lt_of_cell h)]; exact h
theorem Laid.below {B : Nat} {w w' : World} (h : Laid w) (hb : Below B w w') (hB : w.heap.size ≤ B) : Laid w' :=
  (hb.cell (p := ⟨0, 0, none⟩) (Nat.lt_of_lt_of_le (lt_of_cell h) hB)).trans h
theorem Laid.drew {w : World} (h : Laid w) : Laid w.drew := h

set_option maxHeartbeats 1000000 in
theorem kind_fault (v inner : Value) (k a : Int) (w : World) (hl : Laid w) (h : FaultAt w v k a inner) :
    Calls Tryd.prog 9 #[v] w fun e w' => e = .returned (.int .i64 k) ∧ Below w.heap.size w w' := by
  obtain ⟨b, rfl, h0, h1, h2⟩ := h
  have hlt := lt_of_cell h0
  have ht : (w.alloc (.cells #[.pointer none] 65)).cell? ⟨w.heap.size, 0, none⟩ = some (.pointer none) := by rw [World.cell?_alloc_at _ _ _ _ rfl]; rfl
  have hf : (w.alloc (.cells #[.pointer none] 65)).frozen? ⟨w.heap.size, 0, none⟩ = false := by rw [World.frozen?_alloc_at _ _ _ _ rfl]
  have C := as_hit ⟨b, 0, none⟩ ⟨w.heap.size, 0, none⟩ _ _ (hl.alloc (.cells #[.pointer none] 65)) ht hf
  have t1 := asWorld_target _ ⟨b, 0, none⟩ _ _ ht
  have hb : Below w.heap.size w (asWorld (w.alloc (.cells #[.pointer none] 65)) ⟨b, 0, none⟩ ⟨w.heap.size, 0, none⟩) :=
    ((Below.refl _ w).alloc (Nat.le_refl _) _).trans (asWorld_below _ _ _ (by simp) (by simp))
  have t2 := (hb.cell (p := ⟨b, 0, none⟩) hlt).trans h0
  generalize hW : asWorld (w.alloc (.cells #[.pointer none] 65)) ⟨b, 0, none⟩ ⟨w.heap.size, 0, none⟩ = W at C t1 hb t2
  clear hW h0 h1 h2 ht hf hl
  go_enter Tryd.func9, Tryd.ntmps9
  go_wp2_with (go_at_call 29; refine C.mono ?_; rintro e w' ⟨rfl, rfl⟩)
  go_ret
  exact ⟨rfl, hb⟩

theorem at_nil (w : World) : Calls Tryd.prog 11 #[.nilIface] w fun e w' => e = .returned (.int .i64 (-1)) ∧ Below w.heap.size w w' := by
  go_enter Tryd.func11, Tryd.ntmps11
  go_wp2
  go_ret
  exact ⟨rfl, (Below.refl _ w).alloc (Nat.le_refl _) _⟩

set_option maxHeartbeats 1000000 in
theorem at_fault (v inner : Value) (k a : Int) (w : World) (hl : Laid w) (h : FaultAt w v k a inner) :
    Calls Tryd.prog 11 #[v] w fun e w' => e = .returned (.int .i64 a) ∧ Below w.heap.size w w' := by
  obtain ⟨b, rfl, h0, h1, h2⟩ := h
  have hlt := lt_of_cell h0
  have ht : (w.alloc (.cells #[.pointer none] 65)).cell? ⟨w.heap.size, 0, none⟩ = some (.pointer none) := by rw [World.cell?_alloc_at _ _ _ _ rfl]; rfl
  have hf : (w.alloc (.cells #[.pointer none] 65)).frozen? ⟨w.heap.size, 0, none⟩ = false := by rw [World.frozen?_alloc_at _ _ _ _ rfl]
  have C := as_hit ⟨b, 0, none⟩ ⟨w.heap.size, 0, none⟩ _ _ (hl.alloc (.cells #[.pointer none] 65)) ht hf
  have t1 := asWorld_target _ ⟨b, 0, none⟩ _ _ ht
  have hb : Below w.heap.size w (asWorld (w.alloc (.cells #[.pointer none] 65)) ⟨b, 0, none⟩ ⟨w.heap.size, 0, none⟩) :=
    ((Below.refl _ w).alloc (Nat.le_refl _) _).trans (asWorld_below _ _ _ (by simp) (by simp))
  have t2 := (hb.cell (p := ⟨b, 1, none⟩) hlt).trans h1
  generalize hW : asWorld (w.alloc (.cells #[.pointer none] 65)) ⟨b, 0, none⟩ ⟨w.heap.size, 0, none⟩ = W at C t1 hb t2
  clear hW h0 h1 h2 ht hf hl
  go_enter Tryd.func11, Tryd.ntmps11
  go_wp2_with (go_at_call 29; refine C.mono ?_; rintro e w' ⟨rfl, rfl⟩)
  go_ret
  exact ⟨rfl, hb⟩
end Go.Proofs.YtelofhplpeeplaaDoor.errs
