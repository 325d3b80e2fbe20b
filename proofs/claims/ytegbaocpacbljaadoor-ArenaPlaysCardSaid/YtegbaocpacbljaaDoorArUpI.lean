/- Up, Kids and Deep of a tree. -/
import Derived.Test.YtegbaocpacbljaaDoorArLenI
import Derived.BigQuiet
import Derived.Deep.LoopGhost
namespace Go.Proofs.YtegbaocpacbljaaDoor.arenaI
open Go.RowKit Go.Proofs.YtegbaocpacbljaaDoor.arena
variable {w : World} {B tb : Nat} {most : Int} {nv : Value} {n : Nat} {V : Nat → Int} {U : Nat → Int} {K : Nat → Value} {C : Nat → List Nat}

theorem up_yes (h : Tr w B tb most nv n V U K C) (i : Nat) (hi : i < n) (u : Nat) (hu : U i = (u : Int)) : Calls Tryd.prog 30 #[.pointer (some ⟨tb, 0, none⟩), .int .i64 (i : Int)] w fun e w' => e = .returned (.tuple #[.int .i64 (u : Int), .bool true]) ∧ w = w' := by
  have T := there_yes h i hi
  have c1 := h.c1
  obtain ⟨nb, cap, rfl, k1, k2, k3, k4, k5, k6⟩ := h.row hi
  obtain ⟨-, c2, -⟩ := k5 i hi
  rw [hu] at c2
  have x0 : (0 : Int) ≤ (i : Int) := by omega
  have x1 : (i : Int) < (n : Int) := by omega
  have x2 : ¬ (u : Int) = -1 := by omega
  clear h k5 k6 hu
  go_enter Tryd.func30, Tryd.ntmps30
  go_wp2_with fail
  refine T.mono ?_; rintro e w' ⟨rfl, rfl⟩
  go_wp2_with fail
  go_ret2
  exact ⟨rfl, rfl⟩
theorem up_root (h : Tr w B tb most nv n V U K C) (hi : 0 < n) (hu : U 0 = -1) : Calls Tryd.prog 30 #[.pointer (some ⟨tb, 0, none⟩), .int .i64 0] w fun e w' => e = .returned (.tuple #[.int .i64 0, .bool false]) ∧ w = w' := by
  have T := there_yes h 0 hi
  have c1 := h.c1
  obtain ⟨nb, cap, rfl, k1, k2, k3, k4, k5, k6⟩ := h.row hi
  obtain ⟨-, c2, -⟩ := k5 0 hi
  rw [hu] at c2
  have x1 : (0 : Int) < (n : Int) := by omega
  clear h k5 k6 hu
  go_enter Tryd.func30, Tryd.ntmps30
  go_wp2_with fail
  refine T.mono ?_; rintro e w' ⟨rfl, rfl⟩
  go_wp2_with fail
  go_ret2
  exact ⟨rfl, rfl⟩
theorem up_no (h : Tr w B tb most nv n V U K C) (x : Int) (hx : x < 0 ∨ (n : Int) ≤ x) : Calls Tryd.prog 30 #[.pointer (some ⟨tb, 0, none⟩), .int .i64 x] w fun e w' => e = .returned (.tuple #[.int .i64 0, .bool false]) ∧ w = w' := by
  have T := there_no h x hx
  clear h hx
  go_enter Tryd.func30, Tryd.ntmps30
  go_wp2_with fail
  refine T.mono ?_; rintro e w' ⟨rfl, rfl⟩
  go_wp2_with fail
  go_ret2
  exact ⟨rfl, rfl⟩
end Go.Proofs.YtegbaocpacbljaaDoor.arenaI
