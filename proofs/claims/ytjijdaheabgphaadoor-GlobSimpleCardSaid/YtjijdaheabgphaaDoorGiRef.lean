/- The document's Simple. -/
import Derived.Test.YtjijdaheabgphaaDoorGiPush
import Derived.Deep.RegionHeld3
import Derived.Deep.DeepCutAuto
set_option linter.unusedSimpArgs false
set_option linter.unusedVariables false
namespace Go.Proofs.YtjijdaheabgphaaDoor.globSimple
open Go.RowKit Go.Proofs.YtjijdaheabgphaaDoor.errs Go.Proofs.YtjijdaheabgphaaDoor.rows Go.Proofs.YtjijdaheabgphaaDoor.utf Go.Proofs.YtjijdaheabgphaaDoor.umath Go.Proofs.YtjijdaheabgphaaDoor.chars Go.Proofs.YtjijdaheabgphaaDoor.gmath Go.Proofs.YtjijdaheabgphaaDoor.glref Go.Proofs.YtjijdaheabgphaaDoor.gparts Go.Proofs.YtjijdaheabgphaaDoor.text Go.Proofs.YtjijdaheabgphaaDoor.ref

set_option maxRecDepth 100000 in
set_option maxHeartbeats 4000000 in
theorem rsimple_wrong (p s : ByteArray) (hp : p.size ≤ 1000000) (hs : s.size ≤ 1000000) (hc : ¬ (checkSOf p).1 = 0) (w : World) :
    Calls Tryd.prog 20 #[.string p, .string s] w fun e w' => e = .returned (.bool false) ∧ Below w.heap.size w w' := by
  have CK := rcheckS_any p hp w
  have hk0 : ((checkSOf p).1 == 0) = false := beq_eq_false_iff_ne.2 hc
  generalize (checkSOf p).1 = k at *
  generalize (checkSOf p).2 = a at *
  have hk1 : ¬ k = 0 := hc
  clear hc
  go_enter Tryd.func20, Tryd.ntmps20
  go_wp2_with fail
  refine CK.mono ?_; rintro e w1 ⟨rfl, hb1⟩
  obtain ⟨v1, W1, hv1, hs1⟩ := bytes_new p hp w1
  have C1 := chars_some p v1 W1 hs1.out.1 hp
  have hv1 := hv1.out
  have K1 : Aside (Keeps w W1) := Keeps.step hb1 hs1.out.2
  clear hs1 hb1 CK
  go_wp2_with fail
  refine C1.mono ?_; rintro e w2 ⟨x2, k2, rfl, hb2⟩
  obtain ⟨v3, W3, hv3, hs3⟩ := bytes_new s hs w2
  have C3 := chars_some s v3 W3 hs3.out.1 hs
  have hv3 := hv3.out
  have K3 : Aside (Keeps w W3) := (K1.out.step hb2).step hs3.out.2
  clear hs3 hb2 K1 C1 hv1
  go_wp2_with fail
  refine C3.mono ?_; rintro e w4 ⟨x4, k4, rfl, hb4⟩
  have K4 : Aside (Keeps w w4) := K3.out.step hb4
  clear hb4 K3 C3 hv3
  go_wp2_with fail
  go_ret
  exact ⟨rfl, K4.out⟩

theorem checkS_zero {p : ByteArray} (h : (checkSOf p).1 = 0) : firstBad p = none ∧ (checkOf p).1 = 0 ∧ (prsOf p).1.1 = 0 := by
  unfold checkSOf at h
  by_cases hc : (checkOf p).1 = 0
  · rw [if_pos hc] at h
    exact ⟨(check_zero hc).1, hc, h⟩
  · rw [if_neg hc] at h
    exact absurd h hc

set_option maxRecDepth 100000 in
set_option maxHeartbeats 4000000 in
theorem rsimple_text (p s : ByteArray) (hp : p.size ≤ 1000000) (hs : s.size ≤ 1000000) (hc : (checkSOf p).1 = 0) {i : Nat} (hf : firstBad s = some i) (w : World) :
    Calls Tryd.prog 20 #[.string p, .string s] w fun e w' => e = .returned (.bool false) ∧ Below w.heap.size w w' := by
  have CK := rcheckS_any p hp w
  rw [hc] at CK
  generalize (checkSOf p).2 = a at *
  clear hc
  go_enter Tryd.func20, Tryd.ntmps20
  go_wp2_with fail
  refine CK.mono ?_; rintro e w1 ⟨rfl, hb1⟩
  obtain ⟨v1, W1, hv1, hs1⟩ := bytes_new p hp w1
  have C1 := chars_some p v1 W1 hs1.out.1 hp
  have hv1 := hv1.out
  have K1 : Aside (Keeps w W1) := Keeps.step hb1 hs1.out.2
  clear hs1 hb1 CK
  go_wp2_with fail
  refine C1.mono ?_; rintro e w2 ⟨x2, k2, rfl, hb2⟩
  obtain ⟨v3, W3, hv3, hs3⟩ := bytes_new s hs w2
  have C3 := chars_wrong hf v3 W3 hs3.out.1 hs
  have hv3 := hv3.out
  have K3 : Aside (Keeps w W3) := (K1.out.step hb2).step hs3.out.2
  clear hs3 hb2 K1 C1 hv1 hf
  go_wp2_with fail
  refine C3.mono ?_; rintro e w4 ⟨x4, rfl, hb4⟩
  have K4 : Aside (Keeps w w4) := K3.out.step hb4
  have y0 : (0 : Int) ≤ (i : Int) := by omega
  clear hb4 K3 C3 hv3
  go_wp2_with fail
  go_ret
  exact ⟨rfl, K4.out⟩

set_option maxRecDepth 100000 in
set_option maxHeartbeats 16000000 in
theorem rsimple_right (p s : ByteArray) (hp : p.size ≤ 1000000) (hs : s.size ≤ 1000000) (hc : (checkSOf p).1 = 0) (hf : firstBad s = none) (w : World) :
    Calls Tryd.prog 20 #[.string p, .string s] w fun e w' => e = .returned (.bool (lg (prsOf p).2 (all s))) ∧ Below w.heap.size w w' := by
  have CK := rcheckS_any p hp w
  rw [hc] at CK
  generalize (checkSOf p).2 = a at CK
  obtain ⟨hg, hc0, hpr⟩ := checkS_zero hc
  have hpl := all_le p
  have hsl := all_le s
  have HP := Lib.hid fun v w hv => chars_right hg v w hv hp
  have HS := Lib.hid fun v w hv => chars_right hf v w hv hs
  have HD := prsOf_D p hg
  obtain ⟨⟨⟨r1, r2⟩, P⟩, hres⟩ : ∃ r, prsOf p = r := ⟨_, rfl⟩
  rw [hres] at HD hpr ⊢
  have hpr : r1 = 0 := hpr
  subst hpr
  have PLn : P.length ≤ 1000000 := by have := prsOf_length p; rw [hres] at this; have : P.length ≤ p.size := this; omega
  obtain ⟨L, hL⟩ : ∃ L, Hid (all p = L) := ⟨_, rfl⟩
  obtain ⟨T, hT⟩ : ∃ T, Hid (all s = T) := ⟨_, rfl⟩
  rw [hL.out] at hpl HP HD
  rw [hT.out] at hsl HS ⊢
  have htn : T.length ≤ 1000000 := by omega
  obtain ⟨n, hn⟩ : ∃ n, Hid (T.length = n) := ⟨_, rfl⟩
  obtain ⟨m, hm⟩ : ∃ m, Hid (L.length = m) := ⟨_, rfl⟩
  have hln : L.length ≤ 1000000 := by omega
  rw [hn.out] at htn
  rw [hm.out] at hln HD
  have HE := Lib.hid HD
  obtain ⟨res, hr⟩ : ∃ res, Hid (lg P T = res) := ⟨_, rfl⟩
  show Calls Tryd.prog 20 #[.string p, .string s] w fun e w' => e = .returned (.bool (lg P T)) ∧ Below w.heap.size w w'
  rw [hr.out]
  clear HD hres hc hc0 hg hf hL hT hpl hsl
  go_enter Tryd.func20, Tryd.ntmps20
  go_wp2_with fail
  refine CK.mono ?_; rintro e w1 ⟨rfl, hb1⟩
  obtain ⟨v1, W1, hv1, hs1⟩ := bytes_new p hp w1
  have C1 := HP.out v1 W1 hs1.out.1
  have hv1 := hv1.out
  have K1 : Aside (Keeps w W1) := Keeps.step hb1 hs1.out.2
  clear hs1 hb1 CK
  go_wp2_with fail
  refine C1.mono ?_; rintro e w2 ⟨x2, rfl, h2⟩
  obtain ⟨v3, W3, hv3, hs3⟩ := bytes_new s hs w2
  have C3 := HS.out v3 W3 hs3.out.1
  have hv3 := hv3.out
  have K3 : Aside (Keeps w W3 ∧ Nums W3 x2 L) := ⟨(K1.out.step h2.out.2).step hs3.out.2, h2.out.1.below hs3.out.2⟩
  clear hs3 h2 K1 C1 hv1
  go_wp2_with fail
  refine C3.mono ?_; rintro e w4 ⟨x4, rfl, h4⟩
  have K4 : Aside (Keeps w w4 ∧ Nums w4 x2 L ∧ Nums w4 x4 T) := ⟨K3.out.1.step h4.out.2, K3.out.2.below h4.out.2, h4.out.1⟩
  clear h4 K3 C3 hv3 HP HS
  obtain ⟨al, cl, hx2, hl1, hl2, -⟩ := K4.out.2.1
  obtain ⟨at4, ct, hx4, ht1, ht2, -⟩ := K4.out.2.2
  subst hx2 hx4
  rw [hn.out] at ht1 K4 ⊢
  rw [hm.out] at hl1 K4 ⊢
  have T0 := Lib.hid (three_new w4)
  have z0 : (n : Int) ≤ 1000000 := by omega
  have z1 : (m : Int) ≤ 1000000 := by omega
  obtain ⟨i3, hi3, hy0, hy1, hy2⟩ := info_parts infoInt
  obtain ⟨i4, hi4, hq0, hq1, hq2⟩ := info_parts infoBool1
  go_wp2_with fail
  generalize ((w4.alloc (.cells #[] 3)).alloc (.cells #[] 4)).alloc (.cells #[] 4) = W5 at T0 ⊢
  go_loopg [11, 12, 13, 14] m (fun g t11 t12 t13 t14 wr => ∃ (k : Nat) (pl : Int) (acc : List Pt) (vc vw vm : Value), vc = t11 ∧ vw = t12 ∧ vm = t13 ∧ t14 = .int .i64 k ∧ k ≤ m ∧ m ≤ k + g ∧ acc.length ≤ k ∧ Aside (dprs p.size g (L.drop k) pl acc = ((0, r2), P) ∧ Three w4.heap.size w4 wr vc vw vm (acc.map cv) (acc.map fv) (acc.map mv)))
  case atStart => exact ⟨0, 0, [], _, _, _, rfl, rfl, rfl, rfl, by omega, by omega, by simp, HE.out.symm, T0.out⟩
  case round =>
    obtain ⟨k, pl, acc, vc, vw, vm, rfl, rfl, rfl, rfl, hk, hg, hac, hA⟩ := hrel
    by_cases hlt : k < m
    · obtain ⟨g, rfl⟩ : ∃ g, gk = g + 1 := ⟨gk - 1, by omega⟩
      have y0 : (0 : Int) ≤ (k : Int) := by omega
      have y1 : (k : Int) < (m : Int) := by omega
      have HS1 := Lib.hid ((dprs_step p.size g L k pl acc (by rw [hm.out]; exact hlt)).symm.trans hA.out.1)
      have T1 : Aside (Three w4.heap.size w4 wr vc vw vm (acc.map cv) (acc.map fv) (acc.map mv)) := hA.out.2
      obtain ⟨a3, c3, e3, -, -, q3⟩ := K4.out.2.1.below hA.out.2.below
      obtain ⟨rfl, -, rfl⟩ : al = a3 ∧ m = L.length ∧ cl = c3 := by simpa using e3
      obtain ⟨b, o, rfl, q5⟩ := q3 (by rw [hm.out]; omega)
      have lw4 : b < w4.heap.size := lt_of_cell (nums_at K4.out.2.1 k (by rw [hm.out]; exact hlt))
      have q4 := q5 k (by rw [hm.out]; exact hlt)
      obtain ⟨c, hcc⟩ : ∃ c, Hid (L.getD k 0 = c) := ⟨_, rfl⟩
      rw [hcc.out] at q4 HS1
      have RD : Hid (∀ w', Below w4.heap.size w4 w' → ∀ j, j < m → w'.cell? ⟨b, o + j, none⟩ = some (.int .i64 (L.getD j 0))) := fun w' h j hj => nums_at (K4.out.2.1.below h) j (by rw [hm.out]; exact hj)
      have lb : b < wr.heap.size := lt_of_cell q4
      clear q3 q5 e3 hA
      have h42 : c ≠ 42 := fun e => by
        have := HS1.out
        rw [if_pos e] at this
        have := congrArg (fun x => x.1.1) this
        exact absurd this (show ¬ ((11 : Int) = 0) by decide)
      have HS2 := Lib.hid (by have := HS1.out; rwa [if_neg h42] at this)
      clear HS1 h42
      by_cases h92 : c = 92
      · subst h92
        have HS3 : Hid ((if k + 1 < L.length then stepD (dprs p.size g) (L.getD (k + 1) 0) false (L.drop (k + 2)) (pl + 1) acc else ((10, p.size), [])) = ((0, r2), P)) := Lib.hid ((if_pos (show (92 : Int) = 92 from rfl)).symm.trans HS2.out)
        clear HS2
        have h2 : k + 1 < m := by
          rcases Nat.lt_or_ge (k + 1) m with q | q
          · exact q
          · exfalso
            have := HS3.out
            rw [if_neg (show ¬ k + 1 < L.length by rw [hm.out]; omega)] at this
            have := congrArg (fun x => x.1.1) this
            exact absurd this (show ¬ ((10 : Int) = 0) by decide)
        have HS4 := Lib.hid (by have := HS3.out; rwa [if_pos (show k + 1 < L.length by rw [hm.out]; exact h2), stepD_at, hm.out] at this)
        clear HS3
        have q6 := RD.out wr T1.out.below (k + 1) h2
        obtain ⟨d, hd⟩ : ∃ d, Hid (L.getD (k + 1) 0 = d) := ⟨_, rfl⟩
        rw [hd.out] at q6 HS4
        have y2 : (0 : Int) ≤ (k : Int) + 1 := by omega
        have y3 : (k : Int) + 1 < (m : Int) := by omega
        have y4 : ((k : Int) + 1).toNat = k + 1 := by omega
        have H2 := Lib.hid h2
        clear h2
        go_upto_region 13 with (at_builtin; refine push_any Tryd.underlying33 hi3 hy0 hy1 hy2 (by decide) rfl T1.out.c (.int .i64 d) rfl (by rw [List.length_map]; omega) T1.out.size rfl _ _ rfl rfl rfl ?_; intro v1' w1' N1)
        have T2 : Aside (Three w4.heap.size w4 w1' v1' vw vm (acc.map cv ++ [.int .i64 d]) (acc.map fv) (acc.map mv)) := T1.out.pushC N1
        clear N1
        go_upto_region 14 with (at_builtin; refine push_any Tryd.underlying43 hi4 hq0 hq1 hq2 (by decide) rfl T2.out.f (.bool false) rfl (by rw [List.length_map]; omega) T2.out.size rfl _ _ rfl rfl rfl ?_; intro v2' w2' N2)
        have T3 : Aside (Three w4.heap.size w4 w2' v1' v2' vm (acc.map cv ++ [.int .i64 d]) (acc.map fv ++ [.bool false]) (acc.map mv)) := T2.out.pushF N2
        clear N2 T2
        have HMX : Hid (k + 2 ≤ m) := H2.out
        by_cases h3 : k + 2 < m
        · have z3 : (k : Int) + 2 < (m : Int) := by omega
          have z5 : (0 : Int) ≤ (k : Int) + 2 := by omega
          have z6 : ((k : Int) + 2).toNat = k + 2 := by omega
          have q7 := RD.out w2' T3.out.below (k + 2) h3
          have H3 := Lib.hid h3
          obtain ⟨x, hx⟩ : ∃ x, Hid (L.getD (k + 2) 0 = x) := ⟨_, rfl⟩
          rw [hx.out] at q7 HS4
          clear h3
          by_cases hs : x = 42
          · subst hs
            have HT := Lib.hid (by have := HS4.out; rwa [if_pos ⟨H3.out, rfl⟩] at this)
            go_wp2_with (at_builtin; refine push_any Tryd.underlying43 hi4 hq0 hq1 hq2 (by decide) rfl T3.out.m (.bool true) rfl (by rw [List.length_map]; omega) T3.out.size rfl _ _ rfl rfl rfl ?_; intro v3' w3' N3)
            have T4 : Aside (Three w4.heap.size w4 w3' v1' v2' v3' ((acc ++ [Pt.mk d false true]).map cv) ((acc ++ [Pt.mk d false true]).map fv) ((acc ++ [Pt.mk d false true]).map mv)) := by
              have := T3.out.pushM N3
              rw [List.map_append, List.map_append, List.map_append]
              exact this
            clear N3
            go_wp2_with fail
            go_roundg g
            case measure => omega
            case rel => exact ⟨k + 3, _, acc ++ [Pt.mk d false true], v1', v2', v3', rfl, rfl, rfl, by go_num, by have := H3.out; omega, by omega, by rw [List.length_append, List.length_singleton]; omega, HT.out, T4.out⟩
          · have HT := Lib.hid (by have := HS4.out; rwa [if_neg (fun h => hs h.2)] at this)
            have ne3 : (x == 42) = false := beq_eq_false_iff_ne.2 hs
            clear hs
            go_wp2_with (at_builtin; refine push_any Tryd.underlying43 hi4 hq0 hq1 hq2 (by decide) rfl T3.out.m (.bool false) rfl (by rw [List.length_map]; omega) T3.out.size rfl _ _ rfl rfl rfl ?_; intro v3' w3' N3)
            have T4 : Aside (Three w4.heap.size w4 w3' v1' v2' v3' ((acc ++ [Pt.mk d false false]).map cv) ((acc ++ [Pt.mk d false false]).map fv) ((acc ++ [Pt.mk d false false]).map mv)) := by
              have := T3.out.pushM N3
              rw [List.map_append, List.map_append, List.map_append]
              exact this
            clear N3
            go_wp2_with fail
            go_roundg g
            case measure => omega
            case rel => exact ⟨k + 2, _, acc ++ [Pt.mk d false false], v1', v2', v3', rfl, rfl, rfl, by go_num, by have := H3.out; omega, by omega, by rw [List.length_append, List.length_singleton]; omega, HT.out, T4.out⟩
        · have z3 : ¬ (k : Int) + 2 < (m : Int) := by omega
          have HT := Lib.hid (by have := HS4.out; rwa [if_neg (fun h => h3 h.1)] at this)
          have H4 : Hid (k + 2 ≤ m) := HMX
          clear h3
          go_wp2_with (at_builtin; refine push_any Tryd.underlying43 hi4 hq0 hq1 hq2 (by decide) rfl T3.out.m (.bool false) rfl (by rw [List.length_map]; omega) T3.out.size rfl _ _ rfl rfl rfl ?_; intro v3' w3' N3)
          have T4 : Aside (Three w4.heap.size w4 w3' v1' v2' v3' ((acc ++ [Pt.mk d false false]).map cv) ((acc ++ [Pt.mk d false false]).map fv) ((acc ++ [Pt.mk d false false]).map mv)) := by
            have := T3.out.pushM N3
            rw [List.map_append, List.map_append, List.map_append]
            exact this
          clear N3
          go_wp2_with fail
          go_roundg g
          case measure => omega
          case rel => exact ⟨k + 2, _, acc ++ [Pt.mk d false false], v1', v2', v3', rfl, rfl, rfl, by go_num, H4.out, by omega, by rw [List.length_append, List.length_singleton]; omega, HT.out, T4.out⟩
      · have ne2 : (c == 92) = false := beq_eq_false_iff_ne.2 h92
        have HS4 := Lib.hid (by have := HS2.out; rwa [if_neg h92, stepD_at, hm.out] at this)
        have HMX : Hid (k + 1 ≤ m) := hlt
        clear HS2 h92
        by_cases h46 : c = 46
        · subst h46
          have HS4 : Hid ((if k + 1 < m ∧ L.getD (k + 1) 0 = 42 then dprs p.size g (L.drop (k + 1 + 1)) (pl + (put 46).length + 1) (acc ++ [Pt.mk 46 true true]) else dprs p.size g (L.drop (k + 1)) (pl + (put 46).length) (acc ++ [Pt.mk 46 true false])) = ((0, r2), P)) := HS4
          go_upto_region 13 with (at_builtin; refine push_any Tryd.underlying33 hi3 hy0 hy1 hy2 (by decide) rfl T1.out.c (.int .i64 46) rfl (by rw [List.length_map]; omega) T1.out.size rfl _ _ rfl rfl rfl ?_; intro v1' w1' N1)
          have T2 : Aside (Three w4.heap.size w4 w1' v1' vw vm (acc.map cv ++ [.int .i64 46]) (acc.map fv) (acc.map mv)) := T1.out.pushC N1
          clear N1
          go_upto_region 14 with (at_builtin; refine push_any Tryd.underlying43 hi4 hq0 hq1 hq2 (by decide) rfl T2.out.f (.bool true) rfl (by rw [List.length_map]; omega) T2.out.size rfl _ _ rfl rfl rfl ?_; intro v2' w2' N2)
          have T3 : Aside (Three w4.heap.size w4 w2' v1' v2' vm (acc.map cv ++ [.int .i64 46]) (acc.map fv ++ [.bool true]) (acc.map mv)) := T2.out.pushF N2
          clear N2 T2
          by_cases h3 : k + 1 < m
          · have z3 : (k : Int) + 1 < (m : Int) := by omega
            have z5 : (0 : Int) ≤ (k : Int) + 1 := by omega
            have z6 : ((k : Int) + 1).toNat = k + 1 := by omega
            have q7 := RD.out w2' T3.out.below (k + 1) h3
            have H3 := Lib.hid h3
            obtain ⟨x, hx⟩ : ∃ x, Hid (L.getD (k + 1) 0 = x) := ⟨_, rfl⟩
            rw [hx.out] at q7 HS4
            clear h3
            by_cases hs : x = 42
            · subst hs
              have HT := Lib.hid (by have := HS4.out; rwa [if_pos ⟨H3.out, rfl⟩] at this)
              go_wp2_with (at_builtin; refine push_any Tryd.underlying43 hi4 hq0 hq1 hq2 (by decide) rfl T3.out.m (.bool true) rfl (by rw [List.length_map]; omega) T3.out.size rfl _ _ rfl rfl rfl ?_; intro v3' w3' N3)
              have T4 : Aside (Three w4.heap.size w4 w3' v1' v2' v3' ((acc ++ [Pt.mk 46 true true]).map cv) ((acc ++ [Pt.mk 46 true true]).map fv) ((acc ++ [Pt.mk 46 true true]).map mv)) := by
                have := T3.out.pushM N3
                rw [List.map_append, List.map_append, List.map_append]
                exact this
              clear N3
              go_wp2_with fail
              go_roundg g
              case measure => omega
              case rel => exact ⟨k + 2, _, acc ++ [Pt.mk 46 true true], v1', v2', v3', rfl, rfl, rfl, by go_num, by have := H3.out; omega, by omega, by rw [List.length_append, List.length_singleton]; omega, HT.out, T4.out⟩
            · have HT := Lib.hid (by have := HS4.out; rwa [if_neg (fun h => hs h.2)] at this)
              have ne3 : (x == 42) = false := beq_eq_false_iff_ne.2 hs
              clear hs
              go_wp2_with (at_builtin; refine push_any Tryd.underlying43 hi4 hq0 hq1 hq2 (by decide) rfl T3.out.m (.bool false) rfl (by rw [List.length_map]; omega) T3.out.size rfl _ _ rfl rfl rfl ?_; intro v3' w3' N3)
              have T4 : Aside (Three w4.heap.size w4 w3' v1' v2' v3' ((acc ++ [Pt.mk 46 true false]).map cv) ((acc ++ [Pt.mk 46 true false]).map fv) ((acc ++ [Pt.mk 46 true false]).map mv)) := by
                have := T3.out.pushM N3
                rw [List.map_append, List.map_append, List.map_append]
                exact this
              clear N3
              go_wp2_with fail
              go_roundg g
              case measure => omega
              case rel => exact ⟨k + 1, _, acc ++ [Pt.mk 46 true false], v1', v2', v3', rfl, rfl, rfl, by go_num, by have := H3.out; omega, by omega, by rw [List.length_append, List.length_singleton]; omega, HT.out, T4.out⟩
          · have z3 : ¬ (k : Int) + 1 < (m : Int) := by omega
            have HT := Lib.hid (by have := HS4.out; rwa [if_neg (fun h => h3 h.1)] at this)
            have H4 : Hid (k + 1 ≤ m) := HMX
            clear h3
            go_wp2_with (at_builtin; refine push_any Tryd.underlying43 hi4 hq0 hq1 hq2 (by decide) rfl T3.out.m (.bool false) rfl (by rw [List.length_map]; omega) T3.out.size rfl _ _ rfl rfl rfl ?_; intro v3' w3' N3)
            have T4 : Aside (Three w4.heap.size w4 w3' v1' v2' v3' ((acc ++ [Pt.mk 46 true false]).map cv) ((acc ++ [Pt.mk 46 true false]).map fv) ((acc ++ [Pt.mk 46 true false]).map mv)) := by
              have := T3.out.pushM N3
              rw [List.map_append, List.map_append, List.map_append]
              exact this
            clear N3
            go_wp2_with fail
            go_roundg g
            case measure => omega
            case rel => exact ⟨k + 1, _, acc ++ [Pt.mk 46 true false], v1', v2', v3', rfl, rfl, rfl, by go_num, H4.out, by omega, by rw [List.length_append, List.length_singleton]; omega, HT.out, T4.out⟩
        · have ne4 : (c == 46) = false := beq_eq_false_iff_ne.2 h46
          rw [decide_eq_false h46] at HS4
          clear h46
          go_upto_region 13 with (at_builtin; refine push_any Tryd.underlying33 hi3 hy0 hy1 hy2 (by decide) rfl T1.out.c (.int .i64 c) rfl (by rw [List.length_map]; omega) T1.out.size rfl _ _ rfl rfl rfl ?_; intro v1' w1' N1)
          have T2 : Aside (Three w4.heap.size w4 w1' v1' vw vm (acc.map cv ++ [.int .i64 c]) (acc.map fv) (acc.map mv)) := T1.out.pushC N1
          clear N1
          go_upto_region 14 with (at_builtin; refine push_any Tryd.underlying43 hi4 hq0 hq1 hq2 (by decide) rfl T2.out.f (.bool false) rfl (by rw [List.length_map]; omega) T2.out.size rfl _ _ rfl rfl rfl ?_; intro v2' w2' N2)
          have T3 : Aside (Three w4.heap.size w4 w2' v1' v2' vm (acc.map cv ++ [.int .i64 c]) (acc.map fv ++ [.bool false]) (acc.map mv)) := T2.out.pushF N2
          clear N2 T2
          by_cases h3 : k + 1 < m
          · have z3 : (k : Int) + 1 < (m : Int) := by omega
            have z5 : (0 : Int) ≤ (k : Int) + 1 := by omega
            have z6 : ((k : Int) + 1).toNat = k + 1 := by omega
            have q7 := RD.out w2' T3.out.below (k + 1) h3
            have H3 := Lib.hid h3
            obtain ⟨x, hx⟩ : ∃ x, Hid (L.getD (k + 1) 0 = x) := ⟨_, rfl⟩
            rw [hx.out] at q7 HS4
            clear h3
            by_cases hs : x = 42
            · subst hs
              have HT := Lib.hid (by have := HS4.out; rwa [if_pos ⟨H3.out, rfl⟩] at this)
              go_wp2_with (at_builtin; refine push_any Tryd.underlying43 hi4 hq0 hq1 hq2 (by decide) rfl T3.out.m (.bool true) rfl (by rw [List.length_map]; omega) T3.out.size rfl _ _ rfl rfl rfl ?_; intro v3' w3' N3)
              have T4 : Aside (Three w4.heap.size w4 w3' v1' v2' v3' ((acc ++ [Pt.mk c false true]).map cv) ((acc ++ [Pt.mk c false true]).map fv) ((acc ++ [Pt.mk c false true]).map mv)) := by
                have := T3.out.pushM N3
                rw [List.map_append, List.map_append, List.map_append]
                exact this
              clear N3
              go_wp2_with fail
              go_roundg g
              case measure => omega
              case rel => exact ⟨k + 2, _, acc ++ [Pt.mk c false true], v1', v2', v3', rfl, rfl, rfl, by go_num, by have := H3.out; omega, by omega, by rw [List.length_append, List.length_singleton]; omega, HT.out, T4.out⟩
            · have HT := Lib.hid (by have := HS4.out; rwa [if_neg (fun h => hs h.2)] at this)
              have ne3 : (x == 42) = false := beq_eq_false_iff_ne.2 hs
              clear hs
              go_wp2_with (at_builtin; refine push_any Tryd.underlying43 hi4 hq0 hq1 hq2 (by decide) rfl T3.out.m (.bool false) rfl (by rw [List.length_map]; omega) T3.out.size rfl _ _ rfl rfl rfl ?_; intro v3' w3' N3)
              have T4 : Aside (Three w4.heap.size w4 w3' v1' v2' v3' ((acc ++ [Pt.mk c false false]).map cv) ((acc ++ [Pt.mk c false false]).map fv) ((acc ++ [Pt.mk c false false]).map mv)) := by
                have := T3.out.pushM N3
                rw [List.map_append, List.map_append, List.map_append]
                exact this
              clear N3
              go_wp2_with fail
              go_roundg g
              case measure => omega
              case rel => exact ⟨k + 1, _, acc ++ [Pt.mk c false false], v1', v2', v3', rfl, rfl, rfl, by go_num, by have := H3.out; omega, by omega, by rw [List.length_append, List.length_singleton]; omega, HT.out, T4.out⟩
          · have z3 : ¬ (k : Int) + 1 < (m : Int) := by omega
            have HT := Lib.hid (by have := HS4.out; rwa [if_neg (fun h => h3 h.1)] at this)
            have H4 : Hid (k + 1 ≤ m) := HMX
            clear h3
            go_wp2_with (at_builtin; refine push_any Tryd.underlying43 hi4 hq0 hq1 hq2 (by decide) rfl T3.out.m (.bool false) rfl (by rw [List.length_map]; omega) T3.out.size rfl _ _ rfl rfl rfl ?_; intro v3' w3' N3)
            have T4 : Aside (Three w4.heap.size w4 w3' v1' v2' v3' ((acc ++ [Pt.mk c false false]).map cv) ((acc ++ [Pt.mk c false false]).map fv) ((acc ++ [Pt.mk c false false]).map mv)) := by
              have := T3.out.pushM N3
              rw [List.map_append, List.map_append, List.map_append]
              exact this
            clear N3
            go_wp2_with fail
            go_roundg g
            case measure => omega
            case rel => exact ⟨k + 1, _, acc ++ [Pt.mk c false false], v1', v2', v3', rfl, rfl, rfl, by go_num, H4.out, by omega, by rw [List.length_append, List.length_singleton]; omega, HT.out, T4.out⟩
    · obtain rfl : k = m := by omega
      have y1 : ¬ (k : Int) < (k : Int) := by omega
      have hP : acc = P := by
        have := hA.out.1
        rw [List.drop_of_length_le (by rw [hm.out]; exact Nat.le_refl _)] at this
        cases gk with
        | zero => exact congrArg (fun x => x.2) this
        | succ g => exact congrArg (fun x => x.2) this
      subst hP
      have H5 : Aside (Keeps w4 wr ∧ Held wr vc (acc.map cv) ∧ Held wr vw (acc.map fv) ∧ Held wr vm (acc.map mv)) := ⟨hA.out.2.below, held_of_own hA.out.2.c, held_of_own hA.out.2.f, held_of_own hA.out.2.m⟩
      clear hA hac hg T0
      obtain ⟨q, hq⟩ : ∃ q, Hid (acc.length = q) := ⟨_, rfl⟩
      rw [hq.out] at PLn
      obtain ⟨ac, cc, ec, lc1, lc2, -⟩ := H5.out.2.1
      obtain ⟨aw, cw, ew, lw1, lw2, -⟩ := H5.out.2.2.1
      obtain ⟨am, cm, em, lm1, lm2, -⟩ := H5.out.2.2.2
      rw [List.length_map, hq.out] at ec lc1 ew lw1 em lm1
      subst ec ew em
      have NT : Aside (Nums wr (.slice at4 n ct) T) := K4.out.2.2.below H5.out.1
      have KW : Aside (Keeps w wr) := K4.out.1.step H5.out.1
      clear K4 hk
      have mk : ∀ W, (Instr.makeSlice 43 (.int .i64 ((n : Int) + 1)) (.int .i64 ((n : Int) + 1))).run Tryd.prog W = .ok (.slice (some ⟨W.heap.size, 0, none⟩) (n + 1) (n + 1)) (made W (n + 1)) := fun W => by
        have := run_made (n + 1) (by omega) W
        rwa [show ((n + 1 : Nat) : Int) = (n : Int) + 1 by omega] at this
      have R5 : Row (made wr (n + 1)) wr.heap.size (n + 1) (fun _ => false) := made_row _ _
      have B5 : Below wr.heap.size wr (made wr (n + 1)) := made_below _ _
      obtain ⟨e0, e1⟩ := R5 n (by omega)
      obtain ⟨W6, hW6⟩ : ∃ W6, W6 = (made wr (n + 1)).setCell ⟨wr.heap.size, n, none⟩ (.bool true) := ⟨_, rfl⟩
      have B6 : Below wr.heap.size wr W6 := by rw [hW6]; exact B5.setCell (p := ⟨wr.heap.size, n, none⟩) (Nat.le_refl _) _
      have K6 : Aside (Keeps w W6 ∧ Nums W6 (.slice at4 n ct) T ∧ Held W6 (.slice ac q cc) (acc.map cv) ∧ Held W6 (.slice aw q cw) (acc.map fv) ∧ Held W6 (.slice am q cm) (acc.map mv)) := ⟨KW.out.step B6, NT.out.below B6, H5.out.2.1.below B6, H5.out.2.2.1.below B6, H5.out.2.2.2.below B6⟩
      have R6 : Aside (Row W6 wr.heap.size (n + 1) (atP (acc.drop q) T)) := by
        show Row _ _ _ _
        rw [hW6]
        refine (R5.set (by omega) true).congr fun j hj => ?_
        rw [← hq.out, List.drop_length, atP_nil T j (by rw [hn.out]; omega), hn.out]
        by_cases e : j = n
        · rw [if_pos e, decide_eq_true e]
        · rw [if_neg e, decide_eq_false e]
      replace hW6 := Lib.hid hW6
      have z2 : (q : Int) ≤ 1000000 := by omega
      clear B5 B6 R5 H5 NT KW
      go_wp2_with fail
      rw [← hW6.out]
      generalize wr.heap.size = eb at R6 ⊢
      clear e0 e1 hW6
      go_loopg [17, 18] q (fun g v0 v1 wr => ∃ (i1 b : Nat) (ii : Int), v0 = .slice (some ⟨b, 0, none⟩) (n + 1) (n + 1) ∧ v1 = .int .i64 ii ∧ ii = (i1 : Int) - 1 ∧ g = i1 ∧ i1 ≤ q ∧ Aside (Keeps W6 wr ∧ Row wr b (n + 1) (atP (acc.drop i1) T)))
      case atStart => exact ⟨q, eb, _, rfl, rfl, rfl, rfl, Nat.le_refl _, Keeps.refl _, R6.out⟩
      case round =>
        clear R6
        obtain ⟨i1, b, ii, rfl, rfl, hii, hg, hi1, hA⟩ := hrel
        cases i1 with
        | zero =>
          obtain rfl : ii = -1 := by omega
          obtain ⟨c0, -⟩ := hA.out.2 0 (by omega)
          have V : Aside (atP (acc.drop 0) T 0 = res) := hr.out
          have KK : Aside (Below w.heap.size w wr) := K6.out.1.step hA.out.1
          generalize atP (acc.drop 0) T 0 = y at c0 V
          clear hA hg hi1 hr hii
          go_wp2_with fail
          go_ret
          exact ⟨by rw [V.out]; rfl, KK.out⟩
        | succ i =>
          have hie : Hid (ii = (i : Int)) := by show ii = _; omega
          have u0 : 0 ≤ ii := by omega
          have u1 : ii < (q : Int) := by omega
          have u2 : ii.toNat = i := by omega
          have hgi : Hid (i < gk) := by show i < _; omega
          have him : Hid (i < q) := by show i < _; omega
          clear hii hg hi1
          have KI : Aside (Keeps W6 (made wr (n + 1)) ∧ Row (made wr (n + 1)) b (n + 1) (atP (acc.drop (i + 1)) T) ∧ Row (made wr (n + 1)) wr.heap.size (n + 1) (fun j => if n + 1 ≤ j then atP (acc.drop i) T j else false) ∧ wr.heap.size ≠ b ∧ W6.heap.size ≤ wr.heap.size) := by
            refine ⟨hA.out.1.step (made_below _ _), hA.out.2.below (made_below _ _), (made_row wr (n + 1)).congr fun k hk => by rw [if_neg (by omega)], ?_, hA.out.1.size⟩
            have := hA.out.2.lt (by omega)
            omega
          clear hA
          go_wp2_with fail
          generalize made wr (n + 1) = W7 at KI ⊢
          generalize wr.heap.size = nb at KI ⊢
          go_loopg [20] (n + 1) (fun g v0 wr => ∃ (k1 : Nat) (kk : Int), v0 = .int .i64 kk ∧ kk = (k1 : Int) - 1 ∧ g = k1 ∧ k1 ≤ n + 1 ∧ Aside (Keeps W6 wr ∧ Row wr b (n + 1) (atP (acc.drop (i + 1)) T) ∧ Row wr nb (n + 1) (fun j => if k1 ≤ j then atP (acc.drop i) T j else false) ∧ nb ≠ b ∧ W6.heap.size ≤ nb))
          case atStart => exact ⟨n + 1, _, rfl, by omega, rfl, Nat.le_refl _, KI.out⟩
          case round =>
            clear KI
            obtain ⟨k1, kk, rfl, hkk, hgk, hk1, hB⟩ := hrel
            cases k1 with
            | zero =>
              obtain rfl : kk = -1 := by omega
              have NX : Aside (Keeps W6 wr ∧ Row wr nb (n + 1) (atP (acc.drop i) T)) := ⟨hB.out.1, hB.out.2.2.1.congr fun j hj => if_pos (Nat.zero_le j)⟩
              clear hB hgk hkk hk1
              go_wp2_with fail
              go_roundg i
              case measure => exact hgi.out
              case rel => exact ⟨i, nb, _, rfl, rfl, by have := hie.out; omega, rfl, by have := him.out; omega, NX.out⟩
            | succ k =>
              have hke : Hid (kk = (k : Int)) := by show kk = _; omega
              have hkn : Hid (k ≤ n) := by show k ≤ n; omega
              have hgk2 : Hid (k < gk) := by show k < _; omega
              have w0 : 0 ≤ kk := by omega
              have w1 : kk ≤ (n : Int) := by omega
              have w2 : kk.toNat = k := by omega
              have w3 : (kk + 1).toNat = k + 1 := by omega
              have hkl : k < n + 1 := by omega
              have hw : IntKind.i64.wrap (kk + 1) = kk + 1 := by rw [IntKind.wrap_i64]; omega
              have w5 : kk < (n : Int) + 1 := by omega
              have hnb : nb ≠ b := hB.out.2.2.2.1
              have hiq : i < acc.length := by rw [hq.out]; exact him.out
              have ST := Lib.hid (step_atP acc T i k hiq (by rw [hn.out]; exact hkn.out))
              have NR : Hid (∀ (w' : World) (X : Bool), Below wr.heap.size wr w' → X = atP (acc.drop i) T k → Keeps W6 (w'.setCell ⟨nb, k, none⟩ (.bool X)) ∧ Row (w'.setCell ⟨nb, k, none⟩ (.bool X)) b (n + 1) (atP (acc.drop (i + 1)) T) ∧ Row (w'.setCell ⟨nb, k, none⟩ (.bool X)) nb (n + 1) (fun j => if k ≤ j then atP (acc.drop i) T j else false) ∧ nb ≠ b ∧ W6.heap.size ≤ nb) := fun w' X hb hX => by
                obtain ⟨q1, q2, q3, q4, q5⟩ := hB.out
                refine ⟨(q1.step hb).setCell (p := ⟨nb, k, none⟩) q5 _, (q2.below hb).far q4 _, ((q3.below hb).set hkl X).congr fun j hj => ?_, q4, q5⟩
                by_cases e : j = k
                · rw [if_pos e, if_pos (by omega), hX, e]
                · rw [if_neg e]
                  by_cases e2 : k ≤ j
                  · rw [if_pos (by omega), if_pos e2]
                  · rw [if_neg (by omega), if_neg e2]
              obtain ⟨gm, rfl, m0⟩ := held_at (K6.out.2.2.2.2.below hB.out.1) hiq
              obtain ⟨gw, rfl, f0⟩ := held_at (K6.out.2.2.2.1.below hB.out.1) hiq
              obtain ⟨gc, rfl, h0⟩ := held_at (K6.out.2.2.1.below hB.out.1) hiq
              obtain ⟨⟨c, f, mn⟩, hpt⟩ : ∃ p, Hid (gparts.at_ acc i = p) := ⟨_, rfl⟩
              rw [hpt.out] at m0 f0 h0
              have m0 : wr.cell? ⟨gm, i, none⟩ = some (.bool mn) := m0
              have f0 : wr.cell? ⟨gw, i, none⟩ = some (.bool f) := f0
              have h0 : wr.cell? ⟨gc, i, none⟩ = some (.int .i64 c) := h0
              obtain ⟨E0, hE0⟩ : ∃ E0, Hid (atP (acc.drop (i + 1)) T k = E0) := ⟨_, rfl⟩
              obtain ⟨c0, -⟩ := hB.out.2.1 k hkl
              obtain ⟨d0, d1⟩ := hB.out.2.2.1 k hkl
              rw [hE0.out] at c0
              have d0 : wr.cell? ⟨nb, k, none⟩ = some (.bool (if k + 1 ≤ k then atP (acc.drop i) T k else false)) := d0
              rw [if_neg (by omega)] at d0
              have NXT : Hid (k < n → ∃ E1 N1 x, (atP (acc.drop (i + 1)) T (k + 1) = E1 ∧ atP (acc.drop i) T (k + 1) = N1 ∧ T.getD k 0 = x) ∧ wr.cell? ⟨b, k + 1, none⟩ = some (.bool E1) ∧ wr.cell? ⟨nb, k + 1, none⟩ = some (.bool N1) ∧ ∃ tb tt, at4 = some ⟨tb, tt, none⟩ ∧ wr.cell? ⟨tb, tt + k, none⟩ = some (.int .i64 x)) := fun hk => by
                refine ⟨_, _, _, ⟨rfl, rfl, rfl⟩, (hB.out.2.1 (k + 1) (by omega)).1, ?_, ?_⟩
                · have := (hB.out.2.2.1 (k + 1) (by omega)).1
                  have : wr.cell? ⟨nb, k + 1, none⟩ = some (.bool (if k + 1 ≤ k + 1 then atP (acc.drop i) T (k + 1) else false)) := this
                  rwa [if_pos (Nat.le_refl _)] at this
                · obtain ⟨a', c', ev, -, -, qt⟩ := K6.out.2.1.below hB.out.1
                  obtain ⟨tb, tt, e, hqt⟩ := qt (by rw [hn.out]; omega)
                  simp only [Value.slice.injEq] at ev
                  exact ⟨tb, tt, ev.1.trans e, hqt k (by rw [hn.out]; exact hk)⟩
              clear hkk hgk hk1 hB hiq
              by_cases hkn2 : k < n
              · obtain ⟨E1, N1, x, ⟨hE1, hN1, hx⟩, c1, d2, tb, tt, rfl, tc⟩ := NXT.out hkn2
                have HE1 := Lib.hid hE1
                have HN1 := Lib.hid hN1
                have HX := Lib.hid hx
                have w4' : kk < (n : Int) := by omega
                have w6 : 0 ≤ kk + 1 := by omega
                have w7 : kk + 1 < (n : Int) + 1 := by omega
                have w8' : kk + 1 ≤ (n : Int) := by omega
                have Hkn := Lib.hid hkn2
                have hdec : decide (kk < (n : Int)) = true := decide_eq_true w4'
                have VAL : Hid (atP (acc.drop i) T k = if mn then E0 || ((f || decide (c = x)) && N1) else (f || decide (c = x)) && E1) := by
                  show _ = _
                  rw [ST.out, hpt.out]
                  unfold stepQ
                  rw [hE0.out, HE1.out, HN1.out, HX.out, decide_eq_true (show k < T.length by rw [hn.out]; exact Hkn.out), Bool.true_and]
                  rfl
                clear hE1 hN1 hx NXT hkn2 ST
                have FIT : (f = true) ∨ (f = false ∧ (c == x) = true ∧ c = x) ∨ (f = false ∧ (c == x) = false ∧ ¬ c = x) := by
                  cases f with
                  | true => exact .inl rfl
                  | false =>
                    by_cases h : c = x
                    · exact .inr (.inl ⟨rfl, beq_iff_eq.2 h, h⟩)
                    · exact .inr (.inr ⟨rfl, beq_eq_false_iff_ne.2 h, h⟩)
                rcases FIT with rfl | ⟨rfl, hcx, hcy⟩ | ⟨rfl, hcx, hcy⟩
                · cases mn with
                  | true =>
                    cases E0 with
                    | true =>
                      go_wp2_with fail
                      go_quiet (fail)
                      go_wp2_with fail
                      go_roundg k
                      case measure => exact hgk2.out
                      case rel => exact ⟨k, _, rfl, by have := hke.out; omega, rfl, by have := hkn.out; omega, NR.out _ _ (below_drewN (Below.refl _ _) _) (by rw [VAL.out]; rfl)⟩
                    | false =>
                      go_wp2_with fail
                      go_quiet (fail)
                      go_wp2_with fail
                      go_roundg k
                      case measure => exact hgk2.out
                      case rel => exact ⟨k, _, rfl, by have := hke.out; omega, rfl, by have := hkn.out; omega, NR.out _ _ (below_drewN (Below.refl _ _) _) (by rw [VAL.out]; simp)⟩
                  | false =>
                    go_wp2_with fail
                    go_quiet (fail)
                    go_wp2_with fail
                    go_roundg k
                    case measure => exact hgk2.out
                    case rel => exact ⟨k, _, rfl, by have := hke.out; omega, rfl, by have := hkn.out; omega, NR.out _ _ (below_drewN (Below.refl _ _) _) (by rw [VAL.out]; simp)⟩
                · have HY := Lib.hid hcy
                  clear hcy
                  cases mn with
                  | true =>
                    cases E0 with
                    | true =>
                      go_wp2_with fail
                      go_quiet (fail)
                      go_wp2_with fail
                      go_roundg k
                      case measure => exact hgk2.out
                      case rel => exact ⟨k, _, rfl, by have := hke.out; omega, rfl, by have := hkn.out; omega, NR.out _ _ (below_drewN (Below.refl _ _) _) (by rw [VAL.out]; simp)⟩
                    | false =>
                      go_wp2_with fail
                      go_quiet (fail)
                      go_wp2_with fail
                      go_roundg k
                      case measure => exact hgk2.out
                      case rel => exact ⟨k, _, rfl, by have := hke.out; omega, rfl, by have := hkn.out; omega, NR.out _ _ (below_drewN (Below.refl _ _) _) (by rw [VAL.out]; rw [decide_eq_true HY.out]; simp)⟩
                  | false =>
                    go_wp2_with fail
                    go_quiet (fail)
                    go_wp2_with fail
                    go_roundg k
                    case measure => exact hgk2.out
                    case rel => exact ⟨k, _, rfl, by have := hke.out; omega, rfl, by have := hkn.out; omega, NR.out _ _ (below_drewN (Below.refl _ _) _) (by rw [VAL.out]; rw [decide_eq_true HY.out]; simp)⟩
                · have HY := Lib.hid hcy
                  clear hcy
                  cases mn with
                  | true =>
                    cases E0 with
                    | true =>
                      go_wp2_with fail
                      go_quiet (fail)
                      go_wp2_with fail
                      go_roundg k
                      case measure => exact hgk2.out
                      case rel => exact ⟨k, _, rfl, by have := hke.out; omega, rfl, by have := hkn.out; omega, NR.out _ _ (below_drewN (Below.refl _ _) _) (by rw [VAL.out]; simp)⟩
                    | false =>
                      go_wp2_with fail
                      go_quiet (fail)
                      go_wp2_with fail
                      go_roundg k
                      case measure => exact hgk2.out
                      case rel => exact ⟨k, _, rfl, by have := hke.out; omega, rfl, by have := hkn.out; omega, NR.out _ _ (below_drewN (Below.refl _ _) _) (by rw [VAL.out]; rw [decide_eq_false HY.out]; simp)⟩
                  | false =>
                    go_wp2_with fail
                    go_quiet (fail)
                    go_wp2_with fail
                    go_roundg k
                    case measure => exact hgk2.out
                    case rel => exact ⟨k, _, rfl, by have := hke.out; omega, rfl, by have := hkn.out; omega, NR.out _ _ (below_drewN (Below.refl _ _) _) (by rw [VAL.out]; rw [decide_eq_false HY.out]; simp)⟩
              · have w4 : ¬ kk < (n : Int) := by omega
                have hdec : decide (kk < (n : Int)) = false := decide_eq_false w4
                have Hkn := Lib.hid hkn2
                have VAL : Hid (atP (acc.drop i) T k = if mn then E0 else false) := by
                  show _ = _
                  rw [ST.out, hpt.out]
                  unfold stepQ
                  rw [hE0.out, decide_eq_false (show ¬ k < T.length by rw [hn.out]; exact Hkn.out), Bool.false_and, Bool.false_and, Bool.false_and, Bool.or_false]
                clear NXT hkn2 ST
                cases mn with
                | true =>
                  cases E0 with
                  | true =>
                    go_wp2_with fail
                    go_quiet (fail)
                    go_wp2_with fail
                    go_roundg k
                    case measure => exact hgk2.out
                    case rel => exact ⟨k, _, rfl, by have := hke.out; omega, rfl, by have := hkn.out; omega, NR.out _ _ (below_drewN (Below.refl _ _) _) (by rw [VAL.out]; rfl)⟩
                  | false =>
                    go_wp2_with fail
                    go_quiet (fail)
                    go_wp2_with fail
                    go_roundg k
                    case measure => exact hgk2.out
                    case rel => exact ⟨k, _, rfl, by have := hke.out; omega, rfl, by have := hkn.out; omega, NR.out _ _ (below_drewN (Below.refl _ _) _) (by rw [VAL.out]; rfl)⟩
                | false =>
                  go_wp2_with fail
                  go_quiet (fail)
                  go_wp2_with fail
                  go_roundg k
                  case measure => exact hgk2.out
                  case rel => exact ⟨k, _, rfl, by have := hke.out; omega, rfl, by have := hkn.out; omega, NR.out _ _ (below_drewN (Below.refl _ _) _) (by rw [VAL.out]; rfl)⟩
end Go.Proofs.YtjijdaheabgphaaDoor.globSimple
