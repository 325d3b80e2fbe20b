/- Deep of a tree. -/
import Derived.Test.YtegbaocpacbljaaDoorArUpI
import Derived.Test.YtegbaocpacbljaaDoorArMath
namespace Go.Proofs.YtegbaocpacbljaaDoor.arenaI
open Go.RowKit Go.Proofs.YtegbaocpacbljaaDoor.arena
variable {w : World} {B tb : Nat} {most : Int} {nv : Value} {n : Nat} {V : Nat → Int} {U : Nat → Int} {K : Nat → Value} {C : Nat → List Nat}

theorem deep_no (h : Tr w B tb most nv n V U K C) (x : Int) (hx : x < 0 ∨ (n : Int) ≤ x) : Calls Tryd.prog 25 #[.pointer (some ⟨tb, 0, none⟩), .int .i64 x] w fun e w' => e = .returned (.int .i64 (-1)) ∧ w = w' := by
  have T := there_no h x hx
  clear h hx
  go_enter Tryd.func25, Tryd.ntmps25
  go_wp2_with fail
  refine T.mono ?_; rintro e w' ⟨rfl, rfl⟩
  go_wp2_with fail
  go_ret
  exact ⟨rfl, rfl⟩
set_option maxHeartbeats 1000000 in
theorem deep_yes (h : Tr w B tb most nv n V U K C) (hU : Ok n U) (x : Nat) (hx : x < n) (hn : n ≤ 100000) : Calls Tryd.prog 25 #[.pointer (some ⟨tb, 0, none⟩), .int .i64 (x : Int)] w fun e w' => e = .returned (.int .i64 (depth U x : Int)) ∧ w = w' := by
  have T := there_yes h x hx
  have L := len_any h
  have D : Aside (depth U x ≤ x) := depth_le hU x hx
  have HH : Aside (Tr w B tb most nv n V U K C ∧ Ok n U) := ⟨h, hU⟩
  have x0 : (0 : Int) ≤ (x : Int) := by omega
  clear h hU
  go_enter Tryd.func25, Tryd.ntmps25
  go_wp2_with fail
  refine T.mono ?_; rintro e w' ⟨rfl, rfl⟩
  go_wp2_with fail
  refine L.mono ?_; rintro e w' ⟨rfl, rfl⟩
  go_wp2_with fail
  go_loopg [1, 5, 14] n (fun g t d r wr => ∃ i k : Nat, t = .int .i64 i ∧ d = .int .i64 k ∧ r = .int .i64 k ∧ i < n ∧ k ≤ n ∧ Hid (k + depth U i = depth U x) ∧ Hid (k + g = n) ∧ Hid (w = wr))
  case atStart => exact ⟨x, 0, rfl, rfl, rfl, hx, Nat.zero_le _, Nat.zero_add _, Nat.zero_add _, rfl⟩
  case round =>
    obtain ⟨i, k, rfl, rfl, rfl, hi, hk, hd, hg, hw⟩ := hrel
    obtain rfl := hw.out
    have hkn : k < n := by have := hd.out; have := D.out; omega
    have x1 : (k : Int) < (n : Int) := by omega
    obtain ⟨g, hg2⟩ : ∃ g, Hid (gk = g + 1) := ⟨gk - 1, by have := hg.out; show gk = _; omega⟩
    by_cases h0 : i = 0
    · subst h0
      have Up := up_root HH.out.1 (by omega) (HH.out.2.1 (by omega))
      go_wp2_with fail
      refine Up.mono ?_; rintro e w' ⟨rfl, rfl⟩
      go_wp2_with fail
      go_ret
      exact ⟨by rw [← hd.out]; simp [depth_zero], rfl⟩
    · obtain ⟨u, hu, hlt⟩ := HH.out.2.2 i (by omega) hi
      have Up := up_yes HH.out.1 i hi u hu
      have hs := depth_step HH.out.2 (by omega) hi hu
      have hd2 : Hid (k + 1 + depth U u = depth U x) := by have := hd.out; show _ = _; omega
      clear hu hs
      go_wp2_with fail
      refine Up.mono ?_; rintro e w' ⟨rfl, rfl⟩
      go_wp2_with fail
      go_roundg g
      case measure => have := hg2.out; omega
      case rel => exact ⟨u, k + 1, rfl, by go_num, by go_num, by omega, by omega, hd2, by have := hg.out; have := hg2.out; show _ = _; omega, rfl⟩
end Go.Proofs.YtegbaocpacbljaaDoor.arenaI
