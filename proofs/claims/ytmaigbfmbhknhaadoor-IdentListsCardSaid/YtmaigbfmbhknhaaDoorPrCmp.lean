/- The comparison that ident.Prints hands to the sort: Go's comparison of the two fingerprints' bytes; it lays two blocks. -/
import Derived.Test.YtmaigbfmbhknhaaDoorPrEq
import Derived.Sort.Grow
namespace Go.Proofs.YtmaigbfmbhknhaaDoor.prints
open Go.RowKit Go.Proofs.YtmaigbfmbhknhaaDoor.errs Go.Extern Go.Sort

theorem compare_any {w : World} {b off cap b' off' cap' : Nat} {p q : Pr} (h : At32 w b off p) (h' : At32 w b' off' q) :
    Calls Tryd.prog 18 #[.slice (some ⟨b, off, none⟩) 32 cap, .slice (some ⟨b', off', none⟩) 32 cap'] w fun e w' => e = .returned (.int .i64 (cf p q)) ∧ w' = w := by
  have c1 := @run_callFunc_extern Tryd.prog 33 _ BytealgCompare.compare Tryd.func33 (by kernel_rfl) (by kernel_rfl) (by kernel_rfl) (by kernel_rfl)
  have r := run_compare (cap := cap) (cap' := cap') h h'
  generalize cf p q = n at *
  clear h h'
  go_enter Tryd.func18, Tryd.ntmps18
  go_wp2_with fail
  go_ret
  exact ⟨rfl, rfl⟩

/-- The world when the closure has boxed what it is handed. -/
def boxed (w : World) (p q : Pr) : World := (w.alloc (.cells (enc p).toArray 24)).alloc (.cells (enc q).toArray 24)

set_option maxHeartbeats 1000000 in
theorem closure_any (p q : Pr) (w : World) :
    Calls Tryd.prog 17 #[.agg (enc p).toArray, .agg (enc q).toArray] w fun e w' => e = .returned (.int .i64 (cf p q)) ∧ ∃ n os, w' = grow (w.drewN n) os := by
  have h1 : ∀ n, At32 ((boxed w p q).drewN n) w.heap.size 0 p := fun n i v hi => by
    rw [World.cell?_drewN]
    exact ((at32_new w p 24).below ((Below.refl _ _).alloc (Nat.le_refl _) _) (Nat.le_refl _)) i v hi
  have h2 : ∀ n, At32 ((boxed w p q).drewN n) (w.heap.size + 1) 0 q := fun n i v hi => by
    rw [World.cell?_drewN]
    have h := at32_new (w.alloc (.cells (enc p).toArray 24)) q 24 i v hi
    have e : (w.alloc (.cells (enc p).toArray 24)).heap.size = w.heap.size + 1 := by simp
    rw [e] at h
    exact h
  have C := fun n => compare_any (cap := 32) (cap' := 32) (h1 n) (h2 n)
  unfold boxed at C
  clear h1 h2
  go_enter Tryd.func17, Tryd.ntmps17
  go_wp2_with fail
  go_quiet ((go_at_call 18; exact Calls.quiet_of_same (C _)))
  go_wp2_with fail
  go_ret
  exact ⟨rfl, nq, _, by rw [alloc_eq_grow, alloc_eq_grow, grow_grow]; rfl⟩
end Go.Proofs.YtmaigbfmbhknhaaDoor.prints
