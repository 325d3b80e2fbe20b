/- Deep of the document's tree. -/
import Derived.Test.YtegbaocpacbljaaDoorRfTr
import Derived.Test.YtegbaocpacbljaaDoorArMath
namespace Go.Proofs.YtegbaocpacbljaaDoor.rf
open Go.RowKit Go.Proofs.YtegbaocpacbljaaDoor.arena
variable {w : World} {B mb : Nat} {most : Int} {vv uv : Value} {n : Nat} {V U : Nat → Int}

theorem deep_no (h : Rt w B mb most vv uv n V U) (x : Int) (hx : x < 0 ∨ (n : Int) ≤ x) : Calls Tryd.prog 26 #[.pointer (some ⟨mb, 0, none⟩), .int .i64 x] w fun e w' => e = .returned (.int .i64 (-1)) ∧ w = w' := by
  have T := has_no h x hx
  clear h hx
  go_enter Tryd.func26, Tryd.ntmps26
  go_wp2_with fail
  refine T.mono ?_; rintro e w' ⟨rfl, rfl⟩
  go_wp2_with fail
  go_ret
  exact ⟨rfl, rfl⟩
set_option maxHeartbeats 1000000 in
theorem deep_yes (h : Rt w B mb most vv uv n V U) (hU : Ok n U) (x : Nat) (hx : x < n) (hn : n ≤ 100000) : Calls Tryd.prog 26 #[.pointer (some ⟨mb, 0, none⟩), .int .i64 (x : Int)] w fun e w' => e = .returned (.int .i64 (depth U x : Int)) ∧ w = w' := by
  have T := has_yes h x hx
  have D : Aside (depth U x ≤ x) := depth_le hU x hx
  have HH : Aside (Rt w B mb most vv uv n V U ∧ Ok n U) := ⟨h, hU⟩
  have c1 := h.c1
  obtain ⟨g, cap, rfl, -, -⟩ := row_get h.urow hx
  have x0 : (0 : Int) ≤ (x : Int) := by omega
  clear h hU
  go_enter Tryd.func26, Tryd.ntmps26
  go_wp2_with fail
  refine T.mono ?_; rintro e w' ⟨rfl, rfl⟩
  go_wp2_with fail
  go_loopg [1, 5] n (fun q t d wr => ∃ i k : Nat, t = .int .i64 i ∧ d = .int .i64 k ∧ i < n ∧ k ≤ n ∧ Hid (k + depth U i = depth U x) ∧ Hid (k + q = n) ∧ Hid (w = wr))
  case atStart => exact ⟨x, 0, rfl, rfl, hx, Nat.zero_le _, Nat.zero_add _, Nat.zero_add _, rfl⟩
  case round =>
    obtain ⟨i, k, rfl, rfl, hi, hk, hd, hg, hw⟩ := hrel
    obtain rfl := hw.out
    have hkn : k < n := by have := hd.out; have := D.out; omega
    obtain ⟨q, hg2⟩ : ∃ q, Hid (gk = q + 1) := ⟨gk - 1, by have := hg.out; show gk = _; omega⟩
    by_cases h0 : i = 0
    · subst h0
      go_wp2_with fail
      go_ret
      exact ⟨by rw [← hd.out]; simp [depth_zero], rfl⟩
    · obtain ⟨u, hu, hlt⟩ := HH.out.2.2 i (by omega) hi
      have hs := depth_step HH.out.2 (by omega) hi hu
      have hd2 : Hid (k + 1 + depth U u = depth U x) := by have := hd.out; show _ = _; omega
      obtain ⟨g', cap', e1, c2, -⟩ := row_get HH.out.1.urow hi
      simp only [Value.slice.injEq, Option.some.injEq, Addr.mk.injEq, and_true, true_and] at e1
      obtain ⟨rfl, rfl⟩ := e1
      rw [hu] at c2
      have y0 : (0 : Int) < (i : Int) := by omega
      have y1 : (i : Int) < (n : Int) := by omega
      clear hu hs
      go_wp2_with fail
      go_roundg q
      case measure => have := hg2.out; omega
      case rel => exact ⟨u, k + 1, rfl, by go_num, by omega, by omega, hd2, by have := hg.out; have := hg2.out; show _ = _; omega, rfl⟩
end Go.Proofs.YtegbaocpacbljaaDoor.rf
