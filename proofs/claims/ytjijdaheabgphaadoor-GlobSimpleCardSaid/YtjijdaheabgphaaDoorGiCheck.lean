/- The document's answer of what is wrong with a pattern with points and stars. -/
import Derived.Test.YtjijdaheabgphaaDoorGiMath
import Derived.Test.YtjijdaheabgphaaDoorGlMatch
import Derived.Test.YtjijdaheabgphaaDoorRefChars2
set_option linter.unusedSimpArgs false
set_option linter.unusedVariables false
namespace Go.Proofs.YtjijdaheabgphaaDoor.globSimple
open Go.RowKit Go.Proofs.YtjijdaheabgphaaDoor.errs Go.Proofs.YtjijdaheabgphaaDoor.rows Go.Proofs.YtjijdaheabgphaaDoor.utf Go.Proofs.YtjijdaheabgphaaDoor.umath Go.Proofs.YtjijdaheabgphaaDoor.chars Go.Proofs.YtjijdaheabgphaaDoor.gmath Go.Proofs.YtjijdaheabgphaaDoor.glref Go.Proofs.YtjijdaheabgphaaDoor.gparts Go.Proofs.YtjijdaheabgphaaDoor.text Go.Proofs.YtjijdaheabgphaaDoor.ref

theorem right_at (p : ByteArray) (h : firstBad p = none) (j : Nat) (hj : j < (all p).length) : right ((all p).getD j 0) = true := by
  obtain ⟨r1, -, -⟩ := unput p p.size 0 (by omega) (by omega) h
  rw [List.getD_eq_getElem?_getD, List.getElem?_eq_getElem hj]
  exact r1 _ (List.getElem_mem hj)

/-- The part at a place, its star told, and what follows. -/
theorem check_zero {p : ByteArray} (h : (checkOf p).1 = 0) : firstBad p = none ∧ checkOf p = (0, 0) ∧ p.size ≤ 1024 := by
  unfold checkOf at h ⊢
  by_cases hb : 1024 < p.size
  · rw [if_pos hb] at h; exact absurd h (by decide)
  · rw [if_neg hb] at h ⊢
    cases h2 : firstBad p with
    | none => exact ⟨rfl, rfl, by omega⟩
    | some i => rw [h2] at h; exact absurd h (show ¬ ((12 : Int) = 0) by decide)

set_option maxRecDepth 100000 in
set_option maxHeartbeats 8000000 in
theorem rcheckS_any (p : ByteArray) (hp : p.size ≤ 1000000) (w : World) :
    Calls Tryd.prog 18 #[.string p] w fun e w' => e = .returned (.tuple #[.int .i64 (checkSOf p).1, .int .i64 (checkSOf p).2]) ∧ Below w.heap.size w w' := by
  have CK := rcheck_any p hp w
  unfold checkSOf
  by_cases hc : (checkOf p).1 = 0
  · rw [if_pos hc]
    obtain ⟨hf, hc2, hz⟩ := check_zero hc
    rw [hc2] at CK
    have CK : Calls Tryd.prog 9 #[.string p] w fun e w' => e = .returned (.tuple #[.int .i64 0, .int .i64 0]) ∧ Below w.heap.size w w' := CK
    have hal := all_le p
    have RA := Lib.hid (right_at p hf)
    have HD := prsOf_D p hf
    obtain ⟨res, hres⟩ : ∃ res, Hid (prsOf p = res) := ⟨_, rfl⟩
    rw [hres.out] at HD ⊢
    obtain ⟨L, hL⟩ : ∃ L, Hid (all p = L) := ⟨_, rfl⟩
    have CR := Lib.hid fun v w hv => chars_right hf v w hv hp
    rw [hL.out] at hal RA HD CR
    obtain ⟨n, hn⟩ : ∃ n, Hid (L.length = n) := ⟨_, rfl⟩
    rw [hn.out] at hal HD
    have HE := Lib.hid HD
    clear HD
    have hn0 : n ≤ 1024 := by omega
    clear hc hc2 hf
    go_enter Tryd.func18, Tryd.ntmps18
    go_wp2_with fail
    refine CK.mono ?_; rintro e w1 ⟨rfl, hb1⟩
    obtain ⟨v1, W1, hv1, hs1⟩ := bytes_new p hp w1
    have C1 := CR.out v1 W1 hs1.out.1
    have hv1 := hv1.out
    have K1 : Aside (Keeps w W1) := Keeps.step hb1 hs1.out.2
    clear hs1 hb1 CK CR
    go_wp2_with fail
    refine C1.mono ?_; rintro e w2 ⟨x2, rfl, h2⟩
    have K2 : Aside (Keeps w w2 ∧ Nums w2 x2 L) := ⟨K1.out.step h2.out.2, h2.out.1⟩
    obtain ⟨a2, c2, e2, q1, q2, -⟩ := h2.out.1
    subst e2
    rw [hn.out] at q1 K2 ⊢
    clear h2 C1 hv1 K1 hal
    go_wp2_with fail
    go_loopg [8, 9] n (fun g t u wr => ∃ (k : Nat) (pl : Int) (acc : List Pt), t = .int .i64 pl ∧ u = .int .i64 k ∧ k ≤ n ∧ n ≤ k + g ∧ 0 ≤ pl ∧ pl ≤ 6 * k ∧ Aside (dprs p.size g (L.drop k) pl acc = res ∧ Keeps w2 wr))
    case atStart => exact ⟨0, 0, [], rfl, rfl, by omega, by omega, by omega, by omega, HE.out.symm, Keeps.refl _⟩
    case round =>
      obtain ⟨k, pl, acc, rfl, rfl, hk, hg, hp0, hp1, hA⟩ := hrel
      by_cases hlt : k < n
      · obtain ⟨g, rfl⟩ : ∃ g, gk = g + 1 := ⟨gk - 1, by omega⟩
        have y0 : (0 : Int) ≤ (k : Int) := by omega
        have y1 : (k : Int) < (n : Int) := by omega
        have HS := Lib.hid ((dprs_step p.size g L k pl acc (by rw [hn.out]; exact hlt)).symm.trans hA.out.1)
        have NU := K2.out.2.below hA.out.2
        obtain ⟨a3, c3, e3, -, -, q3⟩ := NU
        obtain ⟨rfl, -, rfl⟩ : a2 = a3 ∧ n = L.length ∧ c2 = c3 := by simpa using e3
        obtain ⟨b, o, rfl, q5⟩ := q3 (by rw [hn.out]; omega)
        have q4 := q5 k (by rw [hn.out]; exact hlt)
        have Q5 := Lib.hid q5
        have RC := RA.out k (by rw [hn.out]; exact hlt)
        obtain ⟨c, hcc⟩ : ∃ c, Hid (L.getD k 0 = c) := ⟨_, rfl⟩
        rw [hcc.out] at q4 RC HS
        have lb : b < wr.heap.size := lt_of_cell q4
        clear q3 q5 e3
        by_cases h42 : c = 42
        · subst h42
          have V : Aside (res = (((11 : Int), pl), ([] : List Pt))) := by
            have := HS.out
            rw [if_pos rfl] at this
            exact this.symm
          go_wp2_with fail
          go_ret2
          exact ⟨by rw [V.out]; rfl, Keeps.step K2.out.1 hA.out.2⟩
        · have ne1 : (c == 42) = false := beq_eq_false_iff_ne.2 h42
          have HS1 := Lib.hid (by have := HS.out; rwa [if_neg h42] at this)
          clear HS
          clear h42
          by_cases h92 : c = 92
          · subst h92
            have HS2 : Hid ((if k + 1 < L.length then stepD (dprs p.size g) (L.getD (k + 1) 0) false (L.drop (k + 2)) (pl + 1) acc else ((10, p.size), [])) = res) := Lib.hid ((if_pos (show (92 : Int) = 92 from rfl)).symm.trans HS1.out)
            clear HS1
            by_cases h2 : k + 1 < n
            · have y3 : (k : Int) + 1 < (n : Int) := by omega
              have y5 : (0 : Int) ≤ (k : Int) + 1 := by omega
              have y6 : ((k : Int) + 1).toNat = k + 1 := by omega
              have e1 : ((k : Int) + 1 == (n : Int)) = false := beq_eq_false_iff_ne.2 (by omega)
              have q6 := Q5.out (k + 1) (by rw [hn.out]; exact h2)
              have RD := RA.out (k + 1) (by rw [hn.out]; exact h2)
              have HS3 := Lib.hid (by have := HS2.out; rwa [if_pos (show k + 1 < L.length by rw [hn.out]; exact h2), stepD_at, hn.out] at this)
              clear HS2
              have H2 := Lib.hid h2
              obtain ⟨c, hc3⟩ : ∃ c, Hid (L.getD (k + 1) 0 = c) := ⟨_, rfl⟩
              rw [hc3.out] at q6 RD HS3
              clear h2
              have PA := fun w => put_any c w RD
              have PL := put_length c
              obtain ⟨z, hz⟩ : ∃ z, Hid ((put c).length = z) := ⟨_, rfl⟩
              rw [hz.out] at PA PL HS3
              have z1 : (1 : Int) ≤ (z : Int) := by omega
              have z2 : (z : Int) ≤ 4 := by omega
              clear PL RD
              go_wp2_with fail
              refine (PA _).mono ?_; rintro e w5 ⟨rfl, rfl⟩
              have KB : Below wr.heap.size wr (wr.alloc (.cells (cells (put c)) 5)) := (Below.refl _ _).alloc (Nat.le_refl _) _
              have KN : Aside (Keeps w2 (wr.alloc (.cells (cells (put c)) 5))) := hA.out.2.step KB
              have NX := fun (h : k + 2 < n) => (KB.cell (p := ⟨b, o + (k + 2), none⟩) (lt_of_cell (Q5.out (k + 2) (by rw [hn.out]; exact h)))).trans (Q5.out (k + 2) (by rw [hn.out]; exact h))
              generalize wr.alloc (.cells (cells (put c)) 5) = W5 at KN NX ⊢
              have NX := Lib.hid NX
              clear KB PA
              by_cases h2 : k + 2 < n
              · have y7 : (k : Int) + 2 < (n : Int) := by omega
                have y8 : (0 : Int) ≤ (k : Int) + 2 := by omega
                have y9 : ((k : Int) + 2).toNat = k + 2 := by omega
                have q7 := NX.out h2
                have H3 := Lib.hid h2
                obtain ⟨d, hd⟩ : ∃ d, Hid (L.getD (k + 2) 0 = d) := ⟨_, rfl⟩
                rw [hd.out] at q7 HS3
                clear h2
                by_cases hs : d = 42
                · subst hs
                  have HT := Lib.hid (by have := HS3.out; rwa [if_pos ⟨H3.out, rfl⟩] at this)
                  go_wp2_with fail
                  go_roundg g
                  case measure => omega
                  case rel => exact ⟨k + 3, pl + 1 + z + 1, _, rfl, by go_num, by have := H3.out; omega, by omega, by omega, by omega, HT.out, KN.out⟩
                · have HT := Lib.hid (by have := HS3.out; rwa [if_neg (fun h => hs h.2)] at this)
                  have ne3 : (d == 42) = false := beq_eq_false_iff_ne.2 hs
                  clear hs
                  go_wp2_with fail
                  go_roundg g
                  case measure => omega
                  case rel => exact ⟨k + 2, pl + 1 + z, _, rfl, by go_num, by have := H3.out; omega, by omega, by omega, by omega, HT.out, KN.out⟩
              · have y7 : ¬ (k : Int) + 2 < (n : Int) := by omega
                have HT := Lib.hid (by have := HS3.out; rwa [if_neg (fun h => h2 h.1)] at this)
                clear h2
                go_wp2_with fail
                go_roundg g
                case measure => omega
                case rel => exact ⟨k + 2, pl + 1 + z, _, rfl, by go_num, by omega, by omega, by omega, by omega, HT.out, KN.out⟩
            · have V : Aside (res = (((10 : Int), (p.size : Int)), ([] : List Pt))) := by
                have := HS2.out
                rw [if_neg (show ¬ k + 1 < L.length by rw [hn.out]; exact h2)] at this
                exact this.symm
              have e1 : ((k : Int) + 1 == (n : Int)) = true := by rw [beq_iff_eq]; omega
              have y4 : (k : Int) + 1 = (n : Int) := by omega
              clear h2 y4
              go_wp2_with fail
              go_ret2
              exact ⟨by rw [V.out]; rfl, Keeps.step K2.out.1 hA.out.2⟩
          · have ne2 : (c == 92) = false := beq_eq_false_iff_ne.2 h92
            have HS4 := Lib.hid (by have := HS1.out; rwa [if_neg h92, stepD_at, hn.out] at this)
            clear HS1
            clear h92
            have PA := fun w => put_any c w RC
            have PL := put_length c
            obtain ⟨z, hz⟩ : ∃ z, Hid ((put c).length = z) := ⟨_, rfl⟩
            rw [hz.out] at PA PL HS4
            have z1 : (1 : Int) ≤ (z : Int) := by omega
            have z2 : (z : Int) ≤ 4 := by omega
            clear PL RC
            go_wp2_with fail
            refine (PA _).mono ?_; rintro e w5 ⟨rfl, rfl⟩
            have KB : Below wr.heap.size wr (wr.alloc (.cells (cells (put c)) 5)) := (Below.refl _ _).alloc (Nat.le_refl _) _
            have KN : Aside (Keeps w2 (wr.alloc (.cells (cells (put c)) 5))) := hA.out.2.step KB
            have NX := fun (h : k + 1 < n) => (KB.cell (p := ⟨b, o + (k + 1), none⟩) (lt_of_cell (Q5.out (k + 1) (by rw [hn.out]; exact h)))).trans (Q5.out (k + 1) (by rw [hn.out]; exact h))
            generalize wr.alloc (.cells (cells (put c)) 5) = W5 at KN NX ⊢
            have NX := Lib.hid NX
            clear KB PA
            by_cases h2 : k + 1 < n
            · have y3 : (k : Int) + 1 < (n : Int) := by omega
              have y5 : (0 : Int) ≤ (k : Int) + 1 := by omega
              have y6 : ((k : Int) + 1).toNat = k + 1 := by omega
              have q6 := NX.out h2
              have H2 := Lib.hid h2
              obtain ⟨d, hd⟩ : ∃ d, Hid (L.getD (k + 1) 0 = d) := ⟨_, rfl⟩
              rw [hd.out] at q6 HS4
              clear h2
              by_cases hs : d = 42
              · subst hs
                have HT := Lib.hid (by have := HS4.out; rwa [if_pos ⟨H2.out, rfl⟩] at this)
                go_wp2_with fail
                go_roundg g
                case measure => omega
                case rel => exact ⟨k + 2, pl + z + 1, _, rfl, by go_num, by have := H2.out; omega, by omega, by omega, by omega, HT.out, KN.out⟩
              · have HT := Lib.hid (by have := HS4.out; rwa [if_neg (fun h => hs h.2)] at this)
                have ne3 : (d == 42) = false := beq_eq_false_iff_ne.2 hs
                clear hs
                go_wp2_with fail
                go_roundg g
                case measure => omega
                case rel => exact ⟨k + 1, pl + z, _, rfl, by go_num, by have := H2.out; omega, by omega, by omega, by omega, HT.out, KN.out⟩
            · have y3 : ¬ (k : Int) + 1 < (n : Int) := by omega
              have HT := Lib.hid (by have := HS4.out; rwa [if_neg (fun h => h2 h.1)] at this)
              clear h2
              go_wp2_with fail
              go_roundg g
              case measure => omega
              case rel => exact ⟨k + 1, pl + z, _, rfl, by go_num, by omega, by omega, by omega, by omega, HT.out, KN.out⟩
      · obtain rfl : k = n := by omega
        have y1 : ¬ (k : Int) < (k : Int) := by omega
        have V : Aside (res.1 = (0, 0)) := by
          have := hA.out.1
          rw [List.drop_of_length_le (by rw [hn.out]; exact Nat.le_refl _)] at this
          show res.1 = _
          rw [← this]
          cases gk <;> rfl
        go_wp2_with fail
        go_ret2
        exact ⟨by rw [V.out]; rfl, Keeps.step K2.out.1 hA.out.2⟩
  · rw [if_neg hc]
    have hk0 : ((checkOf p).1 == 0) = false := beq_eq_false_iff_ne.2 hc
    generalize checkOf p = r at *
    obtain ⟨k, a⟩ := r
    have CK : Calls Tryd.prog 9 #[.string p] w fun e w' => e = .returned (.tuple #[.int .i64 k, .int .i64 a]) ∧ Below w.heap.size w w' := CK
    have hk0 : (k == 0) = false := hk0
    have hk1 : ¬ k = 0 := hc
    clear hc
    go_enter Tryd.func18, Tryd.ntmps18
    go_wp2_with fail
    refine CK.mono ?_; rintro e w1 ⟨rfl, hb1⟩
    have K1 := Lib.hid hb1
    clear hb1
    go_wp2_with fail
    go_ret2
    exact ⟨rfl, K1.out⟩
end Go.Proofs.YtjijdaheabgphaaDoor.globSimple
