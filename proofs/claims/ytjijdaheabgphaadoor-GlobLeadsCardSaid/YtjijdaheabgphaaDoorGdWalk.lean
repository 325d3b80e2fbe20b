/- The law on leads: for any input it returns true. -/
import Derived.Test.YtjijdaheabgphaaDoorGpLeads
set_option linter.unusedSimpArgs false
set_option linter.unusedVariables false
namespace Go.Proofs.YtjijdaheabgphaaDoor.globLeads
open Go.RowKit Go.Proofs.YtjijdaheabgphaaDoor.errs Go.Proofs.YtjijdaheabgphaaDoor.rows Go.Proofs.YtjijdaheabgphaaDoor.utf Go.Proofs.YtjijdaheabgphaaDoor.chars Go.Proofs.YtjijdaheabgphaaDoor.gmath Go.Proofs.YtjijdaheabgphaaDoor.glref Go.Proofs.YtjijdaheabgphaaDoor.gparts

set_option maxRecDepth 100000 in
set_option maxHeartbeats 8000000 in
theorem law (p s m : ByteArray) (w : World) (hp : p.size ≤ maxLen) (hs : s.size ≤ maxLen) (hm : m.size ≤ maxLen) (hT : Tabs w) :
    Calls Tryd.prog 6 #[.string p, .string s, .string m] w fun e w' => e = .returned (.bool true) ∧ Below w.heap.size w w' := by
  unfold maxLen at hp hs hm
  have S := speaks_any w hT
  have HT := Lib.hid hT
  clear hT
  by_cases hbig : 200 < p.size
  · have x1 : (200 : Int) < (p.size : Int) := by omega
    clear hbig
    go_enter Tryd.func6, Tryd.ntmps6
    go_wp2_with fail
    refine S.mono ?_; rintro e w1 ⟨rfl, hb1⟩
    have K1 := Lib.hid hb1
    clear hb1 S
    go_wp2_with fail
    go_ret
    exact ⟨rfl, K1.out⟩
  have x1 : (p.size : Int) ≤ 200 := by omega
  by_cases hbig2 : 200 < s.size
  · have x2 : (200 : Int) < (s.size : Int) := by omega
    clear hbig hbig2
    go_enter Tryd.func6, Tryd.ntmps6
    go_wp2_with fail
    refine S.mono ?_; rintro e w1 ⟨rfl, hb1⟩
    have K1 := Lib.hid hb1
    clear hb1 S
    go_wp2_with fail
    go_ret
    exact ⟨rfl, K1.out⟩
  have x2 : (s.size : Int) ≤ 200 := by omega
  by_cases hbig3 : 200 < m.size
  · have x3 : (200 : Int) < (m.size : Int) := by omega
    clear hbig hbig2 hbig3
    go_enter Tryd.func6, Tryd.ntmps6
    go_wp2_with fail
    refine S.mono ?_; rintro e w1 ⟨rfl, hb1⟩
    have K1 := Lib.hid hb1
    clear hb1 S
    go_wp2_with fail
    go_ret
    exact ⟨rfl, K1.out⟩
  have x3 : (m.size : Int) ≤ 200 := by omega
  have MA : Hid (∀ (fold : Bool) (P T : ByteArray) (w' : World), P.size ≤ 1000 → T.size ≤ 1000 → Keeps w w' → Calls Tryd.prog 10 #[.string P, .string T, .bool fold] w' fun e w'' => e = .returned (.bool (matchOf fold P T)) ∧ Below w'.heap.size w' w'') := fun fold P T w' h1 h2 h => match_any fold P T (by omega) (by omega) w' (HT.out.below h (Nat.le_refl _))
  have B1 := Lib.hid hbig
  have B2 := Lib.hid hbig2
  have B3 := Lib.hid hbig3
  cases hmt : matchOf false p s with
  | false =>
    have C := fun w' h => MA.out false p s w' (by omega) (by omega) h
    rw [hmt] at C
    clear hbig hbig2 hbig3 hmt
    go_enter Tryd.func6, Tryd.ntmps6
    go_wp2_with fail
    refine S.mono ?_; rintro e w1 ⟨rfl, hb1⟩
    have C := C w1 hb1
    have K1 := Lib.hid hb1
    clear hb1 S
    go_wp2_with fail
    refine C.mono ?_; rintro e w2 ⟨rfl, h2⟩
    have K2 : Aside (Keeps w w2) := Keeps.step K1.out h2
    clear h2 C
    go_wp2_with fail
    go_ret
    exact ⟨rfl, K2.out⟩
  | true =>
    have F := Lib.hid (leads_facts p s (by omega) hmt)
    have C := fun w' h => MA.out false p s w' (by omega) (by omega) h
    rw [hmt] at C
    have CF := fun w' h => MA.out true p s w' (by omega) (by omega) h
    rw [F.out.fold] at CF
    have LA := fun w' => lead_any p (by omega) w'
    have LE := fun w' h => least_any p (by omega) w' (HT.out.below (w' := w') h (Nat.le_refl _))
    have f1 := F.out.le
    have f2 := F.out.pre
    have f3 := F.out.least
    obtain ⟨l, hl⟩ : ∃ l, Hid (leadOf p = l) := ⟨_, rfl⟩
    obtain ⟨q, hq⟩ : ∃ q, Hid (gparts.leastOf p = q) := ⟨_, rfl⟩
    rw [hl.out] at f1 f2 LA
    rw [hq.out] at f3 LE
    have al := all_le s
    clear hbig hbig2 hbig3 hmt
    go_enter Tryd.func6, Tryd.ntmps6
    go_wp2_with fail
    refine S.mono ?_; rintro e w1 ⟨rfl, hb1⟩
    have C := C w1 hb1
    have K1 := Lib.hid hb1
    clear hb1 S
    go_wp2_with fail
    refine C.mono ?_; rintro e w2 ⟨rfl, h2⟩
    have K2 : Aside (Keeps w w2) := Keeps.step K1.out h2
    clear h2 C K1
    go_wp2_with fail
    refine (LA _).mono ?_; rintro e w3 ⟨rfl, h3⟩
    have K3 : Aside (Keeps w w3) := K2.out.step h3
    obtain ⟨v4, W4, hv4, hs4⟩ := bytes_new s (by have := B2.out; omega) w3
    have C4 := chars_right F.out.right v4 W4 hs4.out.1 (by have := B2.out; omega)
    have hv4 := hv4.out
    have K4 : Aside (Keeps w W4) := K3.out.step hs4.out.2
    clear hs4 h3 K2 K3 LA
    go_wp2_with fail
    refine C4.mono ?_; rintro e w5 ⟨x5, rfl, h5⟩
    have K5 : Keeps w w5 := K4.out.step h5.out.2
    have LE := LE w5 K5
    obtain ⟨a5, c5, hx5, q1, q2, -⟩ := h5.out.1
    subst hx5
    have K5 := Lib.hid K5
    clear h5 C4 hv4 K4
    have g1 : ¬ (s.size : Int) < (l.size : Int) := by omega
    have g2 : (l.size : Int) ≤ (s.size : Int) := by omega
    have g3 : ((s.extract 0 l.size).toList == l.toList) = true := by rw [f2]; simp
    have g4 : ¬ ((all s).length : Int) < (q : Int) := by omega
    generalize (all s).length = na at *
    have g5 : decide (na < q) = false := decide_eq_false (by omega)
    have g7 : (!((s.extract 0 l.size).toList == l.toList)) = false := by rw [g3]; rfl
    go_wp2_with fail
    refine LE.mono ?_; rintro e w6 ⟨rfl, h6⟩
    have K6 : Keeps w w6 := K5.out.step h6
    have CF := CF w6 K6
    have K6 := Lib.hid K6
    clear h6 LE
    go_wp2_with fail
    refine CF.mono ?_; rintro e w7 ⟨rfl, h7⟩
    have K7 : Aside (Keeps w w7) := K6.out.step h7
    have g6 : decide (s.size < l.size) = false := decide_eq_false (by omega)
    clear h7 CF f1 f2 f3 al g2
    have hm2 : m.size ≤ 1000000 := by have := B3.out; omega
    obtain ⟨v8, W8, hv8, hs8⟩ := bytes_new m hm2 w7
    have hv8 := hv8.out
    have K8 : Aside (Keeps w W8) := K7.out.step hs8.out.2
    cases hf : firstBad m with
    | some i =>
      have C8 := chars_wrong hf v8 W8 hs8.out.1 hm2
      have y0 : (0 : Int) ≤ (i : Int) := by omega
      clear hs8 hf
      go_wp2_with fail
      refine C8.mono ?_; rintro e w9 ⟨x9, rfl, h9⟩
      have K9 : Aside (Keeps w w9) := K8.out.step h9
      clear h9 C8 hv8
      go_wp2_with fail
      go_ret
      exact ⟨rfl, K9.out⟩
    | none =>
      have C8 := chars_right hf v8 W8 hs8.out.1 hm2
      obtain ⟨m1, m2⟩ := F.out.more m hf
      have b1 := B1.out
      have b2 := B2.out
      have b3 := B3.out
      have D1 := fun w' h => MA.out false (p ++ one42) (s ++ m) w' (by rw [ByteArray.size_append, size42]; omega) (by rw [ByteArray.size_append]; omega) h
      have D2 := fun w' h => MA.out false (one42 ++ p) (m ++ s) w' (by rw [ByteArray.size_append, size42]; omega) (by rw [ByteArray.size_append]; omega) h
      rw [m1] at D1
      rw [m2] at D2
      unfold one42 at D1 D2
      have len1 : ¬ 9223372036854775807 < p.size + 1 := by omega
      have len2 : ¬ 9223372036854775807 < s.size + m.size := by omega
      have len3 : ¬ 9223372036854775807 < 1 + p.size := by omega
      have len4 : ¬ 9223372036854775807 < m.size + s.size := by omega
      clear hs8 hf m1 m2 b1 b2 b3
      go_wp2_with fail
      refine C8.mono ?_; rintro e w9 ⟨x9, rfl, h9⟩
      have K9 : Keeps w w9 := K8.out.step h9.out.2
      have D1 := D1 w9 K9
      have K9 := Lib.hid K9
      clear h9 C8 hv8
      go_wp2_with fail
      refine D1.mono ?_; rintro e w10 ⟨rfl, h10⟩
      have K10 : Keeps w w10 := K9.out.step h10
      have D2 := D2 w10 K10
      have K10 := Lib.hid K10
      clear h10 D1
      go_wp2_with fail
      refine D2.mono ?_; rintro e w11 ⟨rfl, h11⟩
      have K11 : Aside (Keeps w w11) := K10.out.step h11
      clear h11 D2
      go_wp2_with fail
      go_ret
      exact ⟨rfl, K11.out⟩
end Go.Proofs.YtjijdaheabgphaaDoor.globLeads
