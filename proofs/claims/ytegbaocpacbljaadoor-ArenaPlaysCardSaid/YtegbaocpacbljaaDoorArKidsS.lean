/- Kids of a tree. -/
import Derived.Test.YtegbaocpacbljaaDoorArLenS
import Derived.Test.YtegbaocpacbljaaDoorArClone
namespace Go.Proofs.YtegbaocpacbljaaDoor.arenaS
open Go.RowKit Go.Proofs.YtegbaocpacbljaaDoor.arena
variable {w : World} {B tb : Nat} {most : Int} {nv : Value} {n : Nat} {V : Nat → ByteArray} {U : Nat → Int} {K : Nat → Value} {C : Nat → List Nat}

theorem kids_no (h : Tr w B tb most nv n V U K C) (x : Int) (hx : x < 0 ∨ (n : Int) ≤ x) : Calls Tryd.prog 18 #[.pointer (some ⟨tb, 0, none⟩), .int .i64 x] w fun e w' => e = .returned (.slice none 0 0) ∧ w = w' := by
  have T := there_no h x hx
  clear h hx
  go_enter Tryd.func18, Tryd.ntmps18
  go_wp2_with fail
  refine T.mono ?_; rintro e w' ⟨rfl, rfl⟩
  go_wp2_with fail
  go_ret
  exact ⟨rfl, rfl⟩
theorem kids_yes (h : Tr w B tb most nv n V U K C) (i : Nat) (hi : i < n) (hl : (C i).length ≤ 1000000) : Calls Tryd.prog 18 #[.pointer (some ⟨tb, 0, none⟩), .int .i64 (i : Int)] w fun e w' => ∃ a c, e = .returned (.slice a (C i).length c) ∧ Aside (w'.ownsRow w.heap.size 3 1 (.slice a (C i).length c) (C i).length (nums (C i)) ∧ Below w.heap.size w w') := by
  have T := there_yes h i hi
  have CL := clone_any w (h.kid i hi) hl
  have c1 := h.c1
  obtain ⟨nb, cap, rfl, k1, k2, k3, k4, k5, k6⟩ := h.row hi
  obtain ⟨-, -, c2⟩ := k5 i hi
  obtain ⟨ka, kc, hk⟩ := h.kform hi
  rw [hk] at c2 CL
  have x0 : (0 : Int) ≤ (i : Int) := by omega
  have x1 : (i : Int) < (n : Int) := by omega
  clear h k5 k6 hk
  go_enter Tryd.func18, Tryd.ntmps18
  go_wp2_with fail
  refine T.mono ?_; rintro e w' ⟨rfl, rfl⟩
  go_wp2_with fail
  refine CL.mono ?_; rintro e w' ⟨a, c, rfl, hP⟩
  go_wp2_with fail
  go_ret
  exact ⟨a, c, rfl, hP⟩
end Go.Proofs.YtegbaocpacbljaaDoor.arenaS
