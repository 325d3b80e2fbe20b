/- The law on simple patterns: for any input it returns true. -/
import Derived.Test.YtjijdaheabgphaaDoorGiRef
import Derived.Test.YtjijdaheabgphaaDoorGmRef
set_option linter.unusedSimpArgs false
set_option linter.unusedVariables false
namespace Go.Proofs.YtjijdaheabgphaaDoor.globSimple
open Go.RowKit Go.Proofs.YtjijdaheabgphaaDoor.errs Go.Proofs.YtjijdaheabgphaaDoor.rows Go.Proofs.YtjijdaheabgphaaDoor.utf Go.Proofs.YtjijdaheabgphaaDoor.chars Go.Proofs.YtjijdaheabgphaaDoor.gmath Go.Proofs.YtjijdaheabgphaaDoor.glref Go.Proofs.YtjijdaheabgphaaDoor.gparts Go.Proofs.YtjijdaheabgphaaDoor.text

theorem rsimple_any (p s : ByteArray) (hp : p.size ≤ 1000000) (hs : s.size ≤ 1000000) (w : World) :
    Calls Tryd.prog 20 #[.string p, .string s] w fun e w' => e = .returned (.bool (simpleOf p s)) ∧ Below w.heap.size w w' := by
  unfold simpleOf
  by_cases hc : (checkSOf p).1 = 0
  · cases hf : firstBad s with
    | none => rw [decide_eq_true hc]; exact rsimple_right p s hp hs hc hf w
    | some i => rw [decide_eq_true hc]; exact rsimple_text p s hp hs hc hf w
  · rw [decide_eq_false hc, Bool.false_and, Bool.false_and]
    exact rsimple_wrong p s hp hs hc w

set_option maxRecDepth 100000 in
set_option maxHeartbeats 8000000 in
theorem main (p s : ByteArray) (w : World) (hp : p.size ≤ 1100) (hs : s.size ≤ 500) (hb : p.size ≤ 100 ∨ (100 < p.size ∧ s.size ≤ 100)) (hH : Tabs w ∧ Laid w) :
    Calls Tryd.prog 4 #[.string p, .string s] w fun e w' => e = .returned (.bool true) ∧ Below w.heap.size w w' := by
  have S := speaks_any w hH.1
  have HT := Lib.hid hH
  have CK := fun w => rcheckS_any p (by omega) w
  have MA : Hid (∀ w', Keeps w w' → Calls Tryd.prog 19 #[.string p, .string s] w' fun e w'' => e = .returned (.bool (simpleOf p s)) ∧ Below w'.heap.size w' w'') := fun w' h => simple_any p s (by omega) (by omega) w' (HT.out.1.below h (Nat.le_refl _))
  have RM : Hid (∀ w', Calls Tryd.prog 20 #[.string p, .string s] w' fun e w'' => e = .returned (.bool (simpleOf p s)) ∧ Below w'.heap.size w' w'') := fun w' => rsimple_any p s (by omega) (by omega) w'
  have CH : Hid (∀ w', Keeps w w' → Calls Tryd.prog 21 #[.string p] w' fun e w'' => CheckOut (checkSOf p) w' e w'') := fun w' h => checkS_any p (by omega) w' (HT.out.1.below h (Nat.le_refl _))
  generalize simpleOf p s = m at *
  have hmm : (m == m) = true := by simp
  have x1 : (p.size : Int) ≤ 1100 := by omega
  have x2 : (s.size : Int) ≤ 500 := by omega
  by_cases hc : (checkSOf p).1 = 0
  · have CH : Hid (∀ w', Keeps w w' → Calls Tryd.prog 21 #[.string p] w' fun e w'' => e = .returned .nilIface ∧ Below w'.heap.size w' w'') := fun w' h => (CH.out w' h).mono fun e w'' h => by unfold CheckOut at h; rwa [if_pos hc] at h
    rw [hc] at CK
    have TN := globMatches.told_nil (checkSOf p).2
    generalize (checkSOf p).2 = a at *
    clear hc hH
    rcases hb with hb | ⟨hb, hb2⟩
    · have x3 : (p.size : Int) ≤ 100 := by omega
      clear hb hp hs
      go_enter Tryd.func4, Tryd.ntmps4
      go_wp2_with fail
      (refine S.mono ?_; rintro e w1 ⟨rfl, hb1⟩)
      have K1 := Lib.hid hb1
      clear hb1 S
      go_wp2_with fail
      (refine (CK _).mono ?_; rintro e w2 ⟨rfl, h2⟩)
      have K2 : Keeps w w2 := Keeps.step K1.out h2
      have C3 := MA.out w2 K2
      have K2 := Lib.hid K2
      clear h2 CK
      go_wp2_with fail
      (refine C3.mono ?_; rintro e w3 ⟨rfl, h3⟩)
      have K3 : Aside (Keeps w w3) := Keeps.step K2.out h3
      clear h3 C3
      go_wp2_with fail
      (refine (RM.out _).mono ?_; rintro e w4 ⟨rfl, h4⟩)
      have K4 : Keeps w w4 := K3.out.step h4
      have C5 := CH.out w4 K4
      have K4 := Lib.hid K4
      clear h4
      go_wp2_with fail
      (refine C5.mono ?_; rintro e w5 ⟨rfl, h5⟩)
      have K5 : Aside (Keeps w w5) := Keeps.step K4.out h5
      clear h5 C5
      go_wp2_with fail
      (refine (TN _).mono ?_; rintro e w6 ⟨rfl, h6⟩)
      have K6 : Aside (Keeps w w6) := K5.out.step h6
      clear h6 TN
      go_wp2_with fail
      go_ret
      exact ⟨rfl, K6.out⟩
    · have x3 : (100 : Int) < (p.size : Int) := by omega
      have x4 : (s.size : Int) ≤ 100 := by omega
      clear hb hb2 hp hs
      go_enter Tryd.func4, Tryd.ntmps4
      go_wp2_with fail
      (refine S.mono ?_; rintro e w1 ⟨rfl, hb1⟩)
      have K1 := Lib.hid hb1
      clear hb1 S
      go_wp2_with fail
      (refine (CK _).mono ?_; rintro e w2 ⟨rfl, h2⟩)
      have K2 : Keeps w w2 := Keeps.step K1.out h2
      have C3 := MA.out w2 K2
      have K2 := Lib.hid K2
      clear h2 CK
      go_wp2_with fail
      (refine C3.mono ?_; rintro e w3 ⟨rfl, h3⟩)
      have K3 : Aside (Keeps w w3) := Keeps.step K2.out h3
      clear h3 C3
      go_wp2_with fail
      (refine (RM.out _).mono ?_; rintro e w4 ⟨rfl, h4⟩)
      have K4 : Keeps w w4 := K3.out.step h4
      have C5 := CH.out w4 K4
      have K4 := Lib.hid K4
      clear h4
      go_wp2_with fail
      (refine C5.mono ?_; rintro e w5 ⟨rfl, h5⟩)
      have K5 : Aside (Keeps w w5) := Keeps.step K4.out h5
      clear h5 C5
      go_wp2_with fail
      (refine (TN _).mono ?_; rintro e w6 ⟨rfl, h6⟩)
      have K6 : Aside (Keeps w w6) := K5.out.step h6
      clear h6 TN
      go_wp2_with fail
      go_ret
      exact ⟨rfl, K6.out⟩
  · have CH : Hid (∀ w', Keeps w w' → Calls Tryd.prog 21 #[.string p] w' fun e w'' => ∃ bb, e = .returned (.iface 64 (.pointer (some ⟨bb, 0, none⟩))) ∧ Aside (FaultAt w'' (.iface 64 (.pointer (some ⟨bb, 0, none⟩))) (checkSOf p).1 (checkSOf p).2 .nilIface ∧ Below w'.heap.size w' w'')) := fun w' h => (CH.out w' h).mono fun e w'' h => out_no hc h
    generalize (checkSOf p).1 = k at *
    generalize (checkSOf p).2 = a at *
    clear hc hH
    rcases hb with hb | ⟨hb, hb2⟩
    · have x3 : (p.size : Int) ≤ 100 := by omega
      clear hb hp hs
      go_enter Tryd.func4, Tryd.ntmps4
      go_wp2_with fail
      (refine S.mono ?_; rintro e w1 ⟨rfl, hb1⟩)
      have K1 := Lib.hid hb1
      clear hb1 S
      go_wp2_with fail
      (refine (CK _).mono ?_; rintro e w2 ⟨rfl, h2⟩)
      have K2 : Keeps w w2 := Keeps.step K1.out h2
      have C3 := MA.out w2 K2
      have K2 := Lib.hid K2
      clear h2 CK
      go_wp2_with fail
      (refine C3.mono ?_; rintro e w3 ⟨rfl, h3⟩)
      have K3 : Aside (Keeps w w3) := Keeps.step K2.out h3
      clear h3 C3
      go_wp2_with fail
      (refine (RM.out _).mono ?_; rintro e w4 ⟨rfl, h4⟩)
      have K4 : Keeps w w4 := K3.out.step h4
      have C5 := CH.out w4 K4
      have K4 := Lib.hid K4
      clear h4
      go_wp2_with fail
      (refine C5.mono ?_; rintro e w5 ⟨bb, rfl, h5⟩)
      have K5 : Aside (Keeps w w5) := Keeps.step K4.out h5.out.2
      have TF := globMatches.told_fault bb k a w5 (HT.out.2.below K5.out (Nat.le_refl _)) h5.out.1
      clear C5
      go_wp2_with fail
      (refine TF.mono ?_; rintro e w6 ⟨rfl, h6⟩)
      have K6 : Aside (Keeps w w6) := K5.out.step h6
      clear h6 TF h5
      go_wp2_with fail
      go_ret
      exact ⟨rfl, K6.out⟩
    · have x3 : (100 : Int) < (p.size : Int) := by omega
      have x4 : (s.size : Int) ≤ 100 := by omega
      clear hb hb2 hp hs
      go_enter Tryd.func4, Tryd.ntmps4
      go_wp2_with fail
      (refine S.mono ?_; rintro e w1 ⟨rfl, hb1⟩)
      have K1 := Lib.hid hb1
      clear hb1 S
      go_wp2_with fail
      (refine (CK _).mono ?_; rintro e w2 ⟨rfl, h2⟩)
      have K2 : Keeps w w2 := Keeps.step K1.out h2
      have C3 := MA.out w2 K2
      have K2 := Lib.hid K2
      clear h2 CK
      go_wp2_with fail
      (refine C3.mono ?_; rintro e w3 ⟨rfl, h3⟩)
      have K3 : Aside (Keeps w w3) := Keeps.step K2.out h3
      clear h3 C3
      go_wp2_with fail
      (refine (RM.out _).mono ?_; rintro e w4 ⟨rfl, h4⟩)
      have K4 : Keeps w w4 := K3.out.step h4
      have C5 := CH.out w4 K4
      have K4 := Lib.hid K4
      clear h4
      go_wp2_with fail
      (refine C5.mono ?_; rintro e w5 ⟨bb, rfl, h5⟩)
      have K5 : Aside (Keeps w w5) := Keeps.step K4.out h5.out.2
      have TF := globMatches.told_fault bb k a w5 (HT.out.2.below K5.out (Nat.le_refl _)) h5.out.1
      clear C5
      go_wp2_with fail
      (refine TF.mono ?_; rintro e w6 ⟨rfl, h6⟩)
      have K6 : Aside (Keeps w w6) := K5.out.step h6
      clear h6 TF h5
      go_wp2_with fail
      go_ret
      exact ⟨rfl, K6.out⟩

set_option maxRecDepth 100000 in
set_option maxHeartbeats 8000000 in
theorem law (p s : ByteArray) (w : World) (hp : p.size ≤ maxLen) (hs : s.size ≤ maxLen) (hH : Tabs w ∧ Laid w) :
    Calls Tryd.prog 4 #[.string p, .string s] w fun e w' => e = .returned (.bool true) ∧ Below w.heap.size w w' := by
  unfold maxLen at hp hs
  by_cases hbig : 1100 < p.size
  · have S := speaks_any w hH.1
    have x1 : (1100 : Int) < (p.size : Int) := by omega
    clear hbig hH
    go_enter Tryd.func4, Tryd.ntmps4
    go_wp2_with fail
    refine S.mono ?_; rintro e w1 ⟨rfl, hb1⟩
    have K1 := Lib.hid hb1
    clear hb1 S
    go_wp2_with fail
    go_ret
    exact ⟨rfl, K1.out⟩
  by_cases hbig2 : 500 < s.size
  · have S := speaks_any w hH.1
    have x1 : (p.size : Int) ≤ 1100 := by omega
    have x2 : (500 : Int) < (s.size : Int) := by omega
    clear hbig hbig2 hH
    go_enter Tryd.func4, Tryd.ntmps4
    go_wp2_with fail
    refine S.mono ?_; rintro e w1 ⟨rfl, hb1⟩
    have K1 := Lib.hid hb1
    clear hb1 S
    go_wp2_with fail
    go_ret
    exact ⟨rfl, K1.out⟩
  by_cases hbig3 : 100 < p.size ∧ 100 < s.size
  · have S := speaks_any w hH.1
    have x1 : (p.size : Int) ≤ 1100 := by omega
    have x2 : (s.size : Int) ≤ 500 := by omega
    have x3 : (100 : Int) < (p.size : Int) := by omega
    have x4 : (100 : Int) < (s.size : Int) := by omega
    clear hbig hbig2 hbig3 hH
    go_enter Tryd.func4, Tryd.ntmps4
    go_wp2_with fail
    refine S.mono ?_; rintro e w1 ⟨rfl, hb1⟩
    have K1 := Lib.hid hb1
    clear hb1 S
    go_wp2_with fail
    go_ret
    exact ⟨rfl, K1.out⟩
  exact main p s w (by omega) (by omega) (by omega) hH
end Go.Proofs.YtjijdaheabgphaaDoor.globSimple
