/- The law's 'same' of a number of a tree and of the document's: it returns true where the one is as the other. -/
import Derived.Test.YtegbaocpacbljaaDoorArMoreI
import Derived.Test.YtegbaocpacbljaaDoorArUpI
import Derived.Test.YtegbaocpacbljaaDoorArKidsI
import Derived.Test.YtegbaocpacbljaaDoorArDeepI
import Derived.Test.YtegbaocpacbljaaDoorArWalkI
import Derived.Test.YtegbaocpacbljaaDoorRfDeep
import Derived.Test.YtegbaocpacbljaaDoorRfWalk
set_option linter.unusedVariables false
namespace Go.Proofs.YtegbaocpacbljaaDoor.pair
open Go.RowKit Go.Proofs.YtegbaocpacbljaaDoor.arena

variable {w : World} {B tb mb : Nat} {most : Int} {nv vv uv : Value} {n : Nat} {V U : Nat → Int} {K : Nat → Value}

theorem same_nil (w : World) (b : Option Addr) : Calls Tryd.prog 16 #[.slice none 0 0, .slice b 0 0] w fun e w' => e = .returned (.bool true) ∧ Below w.heap.size w w' :=
  same_true (l := []) w ⟨none, 0, rfl, Nat.le_refl _, by omega, fun h => by simp at h⟩ ⟨b, 0, rfl, Nat.le_refl _, by omega, fun h => by simp at h⟩ (by simp)

set_option maxRecDepth 100000 in
set_option maxHeartbeats 8000000 in
theorem same_kid (hT : arenaI.Tr w B tb most nv n V U K (kidsOf n U)) (hR : rf.Rt w B mb most vv uv n V U) (hU : Ok n U) (hn : n ≤ 1000) (i u : Nat) (hi : i < n) (h0 : 0 < i) (hu : U i = (u : Int)) :
    Calls Tryd.prog 13 #[.pointer (some ⟨tb, 0, none⟩), .pointer (some ⟨mb, 0, none⟩), .int .i64 (i : Int)] w fun e w' => e = .returned (.bool true) ∧ Below w.heap.size w w' := by
  have HT : Aside (arenaI.Tr w B tb most nv n V U K (kidsOf n U) ∧ rf.Rt w B mb most vv uv n V U ∧ Ok n U) := ⟨hT, hR, hU⟩
  have hn' : n ≤ 100000 := by omega
  have hkl := kidsOf_length n U i
  have m0 := hR.c0
  obtain ⟨gv, cv, rfl, m1, -⟩ := rf.row_get hR.vrow hi
  obtain ⟨gu, cu, rfl, m3, -⟩ := rf.row_get hR.urow hi
  have x0 : (0 : Int) ≤ (i : Int) := by omega
  have x1 : (i : Int) < (n : Int) := by omega
  have x2 : (0 : Int) < (i : Int) := by omega
  have HU := Lib.hid hu
  have HM := Lib.hid m3
  clear hT hR hU hu m3
  go_enter Tryd.func13, Tryd.ntmps13
  go_wp2_with fail
  refine (arenaI.value_yes HT.out.1 i hi).mono ?_; rintro e w' ⟨rfl, rfl⟩
  go_wp2_with fail
  refine (rf.has_yes HT.out.2.1 i hi).mono ?_; rintro e w' ⟨rfl, rfl⟩
  go_wp2_with fail
  refine (rf.kids_yes HT.out.2.1 i hi hn').mono ?_; rintro e w1 ⟨g9, c9, rfl, h1⟩
  go_wp2_with fail
  refine (arenaI.kids_yes (HT.out.1.below h1.out.2) i hi (by omega)).mono ?_; rintro e w2 ⟨a2, c2, rfl, h2⟩
  have h9 : Aside (w2.ownsRow w.heap.size 3 1 (.slice (some ⟨g9, 0, none⟩) (kidsOf n U i).length c9) (kidsOf n U i).length (nums (kidsOf n U i)) ∧ Below w.heap.size w w2) := ⟨own_of_block h1.out.1 fun g hg => h2.out.2.block g (h1.out.1.lt g hg).2, h1.out.2.trans (h2.out.2.mono h1.out.2.size)⟩
  go_wp2_with fail
  refine (same_true w2 (Rd.of_own h2.out.1) (Rd.of_own h9.out.1) (by omega)).mono ?_; rintro e w3 ⟨rfl, h3⟩
  have h9' : Aside (w3.ownsRow w.heap.size 3 1 (.slice (some ⟨g9, 0, none⟩) (kidsOf n U i).length c9) (kidsOf n U i).length (nums (kidsOf n U i)) ∧ Below w.heap.size w w3) := ⟨own_of_block h9.out.1 fun g hg => h3.block g (h9.out.1.lt g hg).2, h9.out.2.trans (h3.mono h9.out.2.size)⟩
  clear h1 h2 h9 h3
  go_wp2_with fail
  refine (arenaI.deep_yes (HT.out.1.below h9'.out.2) HT.out.2.2 i hi hn').mono ?_; rintro e w' ⟨rfl, rfl⟩
  go_wp2_with fail
  refine (rf.deep_yes (HT.out.2.1.below h9'.out.2) HT.out.2.2 i hi hn').mono ?_; rintro e w' ⟨rfl, rfl⟩
  go_wp2_with fail
  refine (arenaI.walk_yes (HT.out.1.below h9'.out.2) HT.out.2.2 i hi hn').mono ?_; rintro e w4 ⟨a4, c4, rfl, h4⟩
  have b4 : Aside (Below w.heap.size w w4) := h9'.out.2.trans (h4.out.2.mono h9'.out.2.size)
  go_wp2_with fail
  refine (rf.walk_yes HT.out.2.2 hn' n i w4 (by omega) hi (HT.out.2.1.below b4.out)).mono ?_; rintro e w5 ⟨g5, c5, rfl, h5⟩
  have hwl := walk_length HT.out.2.2 hi
  go_wp2_with fail
  refine (same_true w5 ((Rd.of_own h4.out.1).below h5.out.2) (Rd.of_own h5.out.1) (by omega)).mono ?_; rintro e w6 ⟨rfl, h6⟩
  have b6 : Below w3.heap.size w3 w6 := h4.out.2.trans ((h5.out.2.trans (h6.mono h5.out.2.size)).mono h4.out.2.size)
  have H6 : Aside (w6.ownsRow w.heap.size 3 1 (.slice (some ⟨g9, 0, none⟩) (kidsOf n U i).length c9) (kidsOf n U i).length (nums (kidsOf n U i)) ∧ Below w.heap.size w w6) := ⟨own_of_block h9'.out.1 fun g hg => b6.block g (h9'.out.1.lt g hg).2, h9'.out.2.trans (b6.mono h9'.out.2.size)⟩
  clear h4 b4 h5 h6 b6 h9'
  have t6 := HT.out.1.below H6.out.2
  have r6 := HT.out.2.1.below H6.out.2
  go_wp2_with fail
  go_loopg [82] (kidsOf n U i).length (fun q t wr => ∃ j : Nat, t = .int .i64 j ∧ j ≤ (kidsOf n U i).length ∧ Hid (j + q = (kidsOf n U i).length) ∧ Hid (w6 = wr))
  case atStart => exact ⟨0, rfl, Nat.zero_le _, Nat.zero_add _, rfl⟩
  case round =>
    obtain ⟨j, rfl, hj, hq, hw⟩ := hrel
    obtain rfl := hw.out
    by_cases hlt : j < (kidsOf n U i).length
    · obtain ⟨q, hq2⟩ : ∃ q, Hid (gk = q + 1) := ⟨gk - 1, by have := hq.out; show gk = _; omega⟩
      have KD := arenaI.kid_yes t6 i hi j hlt (by omega)
      have d1 : w6.cell? ⟨g9, j, none⟩ = some (.int .i64 (((kidsOf n U i).getD j 0 : Nat) : Int)) := by
        rcases own_form H6.out.1 with ⟨e1, -⟩ | ⟨g', c', e1, -, -, -, -, h5, -⟩
        · cases e1
        · simp only [Value.slice.injEq, Option.some.injEq, Addr.mk.injEq, and_true, true_and] at e1
          obtain ⟨rfl, -⟩ := e1
          rw [h5 j (by omega), nums_at _ _ hlt]
      have y0 : (0 : Int) ≤ (j : Int) := by omega
      have y1 : (j : Int) < ((kidsOf n U i).length : Int) := by omega
      generalize (kidsOf n U i).getD j 0 = z at *
      go_wp2_with fail
      refine KD.mono ?_; rintro e w' ⟨rfl, rfl⟩
      go_wp2_with fail
      go_roundg q
      case measure => have := hq2.out; omega
      case rel => exact ⟨j + 1, by go_num, by omega, by have := hq.out; have := hq2.out; show _ = _; omega, rfl⟩
    · obtain rfl : j = (kidsOf n U i).length := by omega
      go_wp2_with fail
      refine (arenaI.kid_off t6 i hi _ (.inr (Int.le_refl _))).mono ?_; rintro e w' ⟨rfl, rfl⟩
      go_wp2_with fail
      refine (arenaI.kid_off t6 i hi _ (.inl (by omega))).mono ?_; rintro e w' ⟨rfl, rfl⟩
      go_wp2_with fail
      refine (arenaI.up_yes t6 i hi u HU.out).mono ?_; rintro e w' ⟨rfl, rfl⟩
      go_wp2_with fail
      refine (rf.has_yes r6 i hi).mono ?_; rintro e w' ⟨rfl, rfl⟩
      have m5 := r6.c1
      have m6 := (H6.out.2.cell (p := ⟨gu, i, none⟩) (ltc HM.out)).trans HM.out
      rw [HU.out] at m6
      go_wp2_with fail
      go_ret
      exact ⟨rfl, H6.out.2⟩

set_option maxRecDepth 100000 in
set_option maxHeartbeats 8000000 in
theorem same_root (hT : arenaI.Tr w B tb most nv n V U K (kidsOf n U)) (hR : rf.Rt w B mb most vv uv n V U) (hU : Ok n U) (hn : n ≤ 1000) (i : Nat) (hi : i < n) (h0 : i = 0) :
    Calls Tryd.prog 13 #[.pointer (some ⟨tb, 0, none⟩), .pointer (some ⟨mb, 0, none⟩), .int .i64 (i : Int)] w fun e w' => e = .returned (.bool true) ∧ Below w.heap.size w w' := by
  have HT : Aside (arenaI.Tr w B tb most nv n V U K (kidsOf n U) ∧ rf.Rt w B mb most vv uv n V U ∧ Ok n U) := ⟨hT, hR, hU⟩
  have hn' : n ≤ 100000 := by omega
  have hkl := kidsOf_length n U i
  have m0 := hR.c0
  obtain ⟨gv, cv, rfl, m1, -⟩ := rf.row_get hR.vrow hi
  have x0 : (0 : Int) ≤ (i : Int) := by omega
  have x1 : (i : Int) < (n : Int) := by omega
  have x2 : ¬ (0 : Int) < (i : Int) := by omega
  have H0 := Lib.hid h0
  clear hT hR hU h0
  go_enter Tryd.func13, Tryd.ntmps13
  go_wp2_with fail
  refine (arenaI.value_yes HT.out.1 i hi).mono ?_; rintro e w' ⟨rfl, rfl⟩
  go_wp2_with fail
  refine (rf.has_yes HT.out.2.1 i hi).mono ?_; rintro e w' ⟨rfl, rfl⟩
  go_wp2_with fail
  refine (rf.kids_yes HT.out.2.1 i hi hn').mono ?_; rintro e w1 ⟨g9, c9, rfl, h1⟩
  go_wp2_with fail
  refine (arenaI.kids_yes (HT.out.1.below h1.out.2) i hi (by omega)).mono ?_; rintro e w2 ⟨a2, c2, rfl, h2⟩
  have h9 : Aside (w2.ownsRow w.heap.size 3 1 (.slice (some ⟨g9, 0, none⟩) (kidsOf n U i).length c9) (kidsOf n U i).length (nums (kidsOf n U i)) ∧ Below w.heap.size w w2) := ⟨own_of_block h1.out.1 fun g hg => h2.out.2.block g (h1.out.1.lt g hg).2, h1.out.2.trans (h2.out.2.mono h1.out.2.size)⟩
  go_wp2_with fail
  refine (same_true w2 (Rd.of_own h2.out.1) (Rd.of_own h9.out.1) (by omega)).mono ?_; rintro e w3 ⟨rfl, h3⟩
  have h9' : Aside (w3.ownsRow w.heap.size 3 1 (.slice (some ⟨g9, 0, none⟩) (kidsOf n U i).length c9) (kidsOf n U i).length (nums (kidsOf n U i)) ∧ Below w.heap.size w w3) := ⟨own_of_block h9.out.1 fun g hg => h3.block g (h9.out.1.lt g hg).2, h9.out.2.trans (h3.mono h9.out.2.size)⟩
  clear h1 h2 h9 h3
  go_wp2_with fail
  refine (arenaI.deep_yes (HT.out.1.below h9'.out.2) HT.out.2.2 i hi hn').mono ?_; rintro e w' ⟨rfl, rfl⟩
  go_wp2_with fail
  refine (rf.deep_yes (HT.out.2.1.below h9'.out.2) HT.out.2.2 i hi hn').mono ?_; rintro e w' ⟨rfl, rfl⟩
  go_wp2_with fail
  refine (arenaI.walk_yes (HT.out.1.below h9'.out.2) HT.out.2.2 i hi hn').mono ?_; rintro e w4 ⟨a4, c4, rfl, h4⟩
  have b4 : Aside (Below w.heap.size w w4) := h9'.out.2.trans (h4.out.2.mono h9'.out.2.size)
  go_wp2_with fail
  refine (rf.walk_yes HT.out.2.2 hn' n i w4 (by omega) hi (HT.out.2.1.below b4.out)).mono ?_; rintro e w5 ⟨g5, c5, rfl, h5⟩
  have hwl := walk_length HT.out.2.2 hi
  go_wp2_with fail
  refine (same_true w5 ((Rd.of_own h4.out.1).below h5.out.2) (Rd.of_own h5.out.1) (by omega)).mono ?_; rintro e w6 ⟨rfl, h6⟩
  have b6 : Below w3.heap.size w3 w6 := h4.out.2.trans ((h5.out.2.trans (h6.mono h5.out.2.size)).mono h4.out.2.size)
  have H6 : Aside (w6.ownsRow w.heap.size 3 1 (.slice (some ⟨g9, 0, none⟩) (kidsOf n U i).length c9) (kidsOf n U i).length (nums (kidsOf n U i)) ∧ Below w.heap.size w w6) := ⟨own_of_block h9'.out.1 fun g hg => b6.block g (h9'.out.1.lt g hg).2, h9'.out.2.trans (b6.mono h9'.out.2.size)⟩
  clear h4 b4 h5 h6 b6 h9'
  have t6 := HT.out.1.below H6.out.2
  have r6 := HT.out.2.1.below H6.out.2
  go_wp2_with fail
  go_loopg [82] (kidsOf n U i).length (fun q t wr => ∃ j : Nat, t = .int .i64 j ∧ j ≤ (kidsOf n U i).length ∧ Hid (j + q = (kidsOf n U i).length) ∧ Hid (w6 = wr))
  case atStart => exact ⟨0, rfl, Nat.zero_le _, Nat.zero_add _, rfl⟩
  case round =>
    obtain ⟨j, rfl, hj, hq, hw⟩ := hrel
    obtain rfl := hw.out
    by_cases hlt : j < (kidsOf n U i).length
    · obtain ⟨q, hq2⟩ : ∃ q, Hid (gk = q + 1) := ⟨gk - 1, by have := hq.out; show gk = _; omega⟩
      have KD := arenaI.kid_yes t6 i hi j hlt (by omega)
      have d1 : w6.cell? ⟨g9, j, none⟩ = some (.int .i64 (((kidsOf n U i).getD j 0 : Nat) : Int)) := by
        rcases own_form H6.out.1 with ⟨e1, -⟩ | ⟨g', c', e1, -, -, -, -, h5, -⟩
        · cases e1
        · simp only [Value.slice.injEq, Option.some.injEq, Addr.mk.injEq, and_true, true_and] at e1
          obtain ⟨rfl, -⟩ := e1
          rw [h5 j (by omega), nums_at _ _ hlt]
      have y0 : (0 : Int) ≤ (j : Int) := by omega
      have y1 : (j : Int) < ((kidsOf n U i).length : Int) := by omega
      generalize (kidsOf n U i).getD j 0 = z at *
      go_wp2_with fail
      refine KD.mono ?_; rintro e w' ⟨rfl, rfl⟩
      go_wp2_with fail
      go_roundg q
      case measure => have := hq2.out; omega
      case rel => exact ⟨j + 1, by go_num, by omega, by have := hq.out; have := hq2.out; show _ = _; omega, rfl⟩
    · obtain rfl : j = (kidsOf n U i).length := by omega
      go_wp2_with fail
      refine (arenaI.kid_off t6 i hi _ (.inr (Int.le_refl _))).mono ?_; rintro e w' ⟨rfl, rfl⟩
      go_wp2_with fail
      refine (arenaI.kid_off t6 i hi _ (.inl (by omega))).mono ?_; rintro e w' ⟨rfl, rfl⟩
      go_wp2_with fail
      refine (show Calls Tryd.prog 30 #[.pointer (some ⟨tb, 0, none⟩), .int .i64 (i : Int)] w6 (fun e w' => e = .returned (.tuple #[.int .i64 0, .bool false]) ∧ w6 = w') from by have := arenaI.up_root t6 (by omega) (HT.out.2.2.1 (by omega)); rw [H0.out]; exact this).mono ?_; rintro e w' ⟨rfl, rfl⟩
      go_wp2_with fail
      go_ret
      exact ⟨rfl, H6.out.2⟩

theorem same_yes (hT : arenaI.Tr w B tb most nv n V U K (kidsOf n U)) (hR : rf.Rt w B mb most vv uv n V U) (hU : Ok n U) (hn : n ≤ 1000) (i : Nat) (hi : i < n) :
    Calls Tryd.prog 13 #[.pointer (some ⟨tb, 0, none⟩), .pointer (some ⟨mb, 0, none⟩), .int .i64 (i : Int)] w fun e w' => e = .returned (.bool true) ∧ Below w.heap.size w w' := by
  by_cases h0 : i = 0
  · exact same_root hT hR hU hn i hi h0
  · obtain ⟨u, hu, -⟩ := hU.2 i (by omega) hi
    exact same_kid hT hR hU hn i u hi (by omega) hu

set_option maxRecDepth 100000 in
set_option maxHeartbeats 8000000 in
theorem same_no (hT : arenaI.Tr w B tb most nv n V U K (kidsOf n U)) (hR : rf.Rt w B mb most vv uv n V U) (hn : n ≤ 1000) (x : Int) (hx : x < 0 ∨ (n : Int) ≤ x) :
    Calls Tryd.prog 13 #[.pointer (some ⟨tb, 0, none⟩), .pointer (some ⟨mb, 0, none⟩), .int .i64 x] w fun e w' => e = .returned (.bool true) ∧ Below w.heap.size w w' := by
  have HT : Aside (arenaI.Tr w B tb most nv n V U K (kidsOf n U) ∧ rf.Rt w B mb most vv uv n V U) := ⟨hT, hR⟩
  have hn' : n ≤ 100000 := by omega
  have HX : Aside (x < 0 ∨ (n : Int) ≤ x) := hx
  clear hT hR hx
  go_enter Tryd.func13, Tryd.ntmps13
  go_wp2_with fail
  refine (arenaI.value_no HT.out.1 x HX.out).mono ?_; rintro e w' ⟨rfl, rfl⟩
  go_wp2_with fail
  refine (rf.has_no HT.out.2 x HX.out).mono ?_; rintro e w' ⟨rfl, rfl⟩
  go_wp2_with fail
  refine (rf.kids_no HT.out.2 x HX.out hn').mono ?_; rintro e w1 ⟨g9, rfl, h1⟩
  have H1 : Aside (Below w.heap.size w w1) := h1
  clear h1
  go_wp2_with fail
  refine (arenaI.kids_no (HT.out.1.below H1.out) x HX.out).mono ?_; rintro e w' ⟨rfl, rfl⟩
  go_wp2_with fail
  refine (same_nil w1 _).mono ?_; rintro e w3 ⟨rfl, h3⟩
  have H3 : Aside (Below w.heap.size w w3) := H1.out.trans (h3.mono H1.out.size)
  clear h3
  go_wp2_with fail
  refine (arenaI.deep_no (HT.out.1.below H3.out) x HX.out).mono ?_; rintro e w' ⟨rfl, rfl⟩
  go_wp2_with fail
  refine (rf.deep_no (HT.out.2.below H3.out) x HX.out).mono ?_; rintro e w' ⟨rfl, rfl⟩
  go_wp2_with fail
  refine (arenaI.walk_no (HT.out.1.below H3.out) x HX.out).mono ?_; rintro e w' ⟨rfl, rfl⟩
  go_wp2_with fail
  refine (rf.walk_no (HT.out.2.below H3.out) x HX.out).mono ?_; rintro e w5 ⟨rfl, h5⟩
  go_wp2_with fail
  refine (same_nil w5 _).mono ?_; rintro e w6 ⟨rfl, h6⟩
  have H6 : Aside (Below w.heap.size w w6) := H3.out.trans ((h5.trans (h6.mono h5.size)).mono H3.out.size)
  clear h5 h6
  go_wp2_with fail
  go_loopg [82] 0 (fun q t wr => t = .int .i64 0 ∧ Hid (w6 = wr))
  case atStart => exact ⟨rfl, rfl⟩
  case round =>
    obtain ⟨rfl, hw⟩ := hrel
    obtain rfl := hw.out
    go_wp2_with fail
    refine (arenaI.kid_no (HT.out.1.below H6.out) x _ HX.out).mono ?_; rintro e w' ⟨rfl, rfl⟩
    go_wp2_with fail
    refine (arenaI.kid_no (HT.out.1.below H6.out) x _ HX.out).mono ?_; rintro e w' ⟨rfl, rfl⟩
    go_wp2_with fail
    refine (arenaI.up_no (HT.out.1.below H6.out) x HX.out).mono ?_; rintro e w' ⟨rfl, rfl⟩
    by_cases h0 : 0 < x
    · go_wp2_with fail
      refine (rf.has_no (HT.out.2.below H6.out) x HX.out).mono ?_; rintro e w' ⟨rfl, rfl⟩
      go_wp2_with fail
      go_ret
      exact ⟨rfl, H6.out⟩
    · go_wp2_with fail
      go_ret
      exact ⟨rfl, H6.out⟩
end Go.Proofs.YtegbaocpacbljaaDoor.pair
