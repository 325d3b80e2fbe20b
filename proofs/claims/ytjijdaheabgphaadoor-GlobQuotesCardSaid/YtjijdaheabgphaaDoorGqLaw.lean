/- The law on quotes: for any input it returns true. -/
import Derived.Test.YtjijdaheabgphaaDoorGqWalk
set_option linter.unusedSimpArgs false
set_option linter.unusedVariables false
namespace Go.Proofs.YtjijdaheabgphaaDoor.globQuotes
open Go.RowKit Go.Proofs.YtjijdaheabgphaaDoor.errs Go.Proofs.YtjijdaheabgphaaDoor.rows Go.Proofs.YtjijdaheabgphaaDoor.utf Go.Proofs.YtjijdaheabgphaaDoor.chars Go.Proofs.YtjijdaheabgphaaDoor.gmath Go.Proofs.YtjijdaheabgphaaDoor.glref Go.Proofs.YtjijdaheabgphaaDoor.gparts Go.Proofs.YtjijdaheabgphaaDoor.build

theorem text_ne {a b : ByteArray} (h : ¬ a = b) : (a.toList == b.toList) = false := by
  rw [beq_eq_false_iff_ne]
  intro e
  rw [ByteArray.toList_eq, ByteArray.toList_eq] at e
  exact h (ByteArray.ext (Array.toList_inj.1 e))

set_option maxRecDepth 100000 in
set_option maxHeartbeats 8000000 in
theorem law (s t : ByteArray) (w : World) (hs : s.size ≤ maxLen) (ht : t.size ≤ maxLen) (hT : Tabs w) :
    Calls Tryd.prog 5 #[.string s, .string t] w fun e w' => e = .returned (.bool true) ∧ Below w.heap.size w w' := by
  unfold maxLen at hs ht
  have S := speaks_any w hT
  have HT := Lib.hid hT
  clear hT
  by_cases hbig : 400 < s.size
  · have x1 : (400 : Int) < (s.size : Int) := by omega
    clear hbig
    go_enter Tryd.func5, Tryd.ntmps5
    go_wp2_with fail
    refine S.mono ?_; rintro e w1 ⟨rfl, hb1⟩
    have K1 := Lib.hid hb1
    clear hb1 S
    go_wp2_with fail
    go_ret
    exact ⟨rfl, K1.out⟩
  have x1 : (s.size : Int) ≤ 400 := by omega
  by_cases hbig2 : 400 < t.size
  · have x2 : (400 : Int) < (t.size : Int) := by omega
    clear hbig hbig2
    go_enter Tryd.func5, Tryd.ntmps5
    go_wp2_with fail
    refine S.mono ?_; rintro e w1 ⟨rfl, hb1⟩
    have K1 := Lib.hid hb1
    clear hb1 S
    go_wp2_with fail
    go_ret
    exact ⟨rfl, K1.out⟩
  have x2 : (t.size : Int) ≤ 400 := by omega
  have hq := quote_size s
  have SA : Hid (∀ (T : ByteArray) (w' : World), T.size ≤ 1000 → Keeps w w' → Calls Tryd.prog 19 #[.string (quoteOf s), .string T] w' fun e w'' => e = .returned (.bool (simpleOf (quoteOf s) T)) ∧ Below w'.heap.size w' w'') := fun T w' h1 h => simple_any (quoteOf s) T (by omega) (by omega) w' (HT.out.below h (Nat.le_refl _))
  have QA := fun w => quote_any s (by omega) w
  have RA := fun w => rquote_any s (by omega) w
  have B1 := Lib.hid hbig
  have B2 := Lib.hid hbig2
  have SQ := Lib.hid fun T (h : firstBad s = none) => simple_quote s T (by omega) h
  have SW := Lib.hid fun (h : firstBad s ≠ none) => simple_wrong (quoteOf s) s h
  clear hbig hbig2 hq
  generalize quoteOf s = q at *
  go_enter Tryd.func5, Tryd.ntmps5
  go_wp2_with fail
  refine S.mono ?_; rintro e w1 ⟨rfl, hb1⟩
  have K1 := Lib.hid hb1
  clear hb1 S
  go_wp2_with fail
  refine (QA _).mono ?_; rintro e w2 ⟨rfl, h2⟩
  have K2 : Aside (Keeps w w2) := Keeps.step K1.out h2
  have hs2 : s.size ≤ 1000000 := by have := B1.out; omega
  obtain ⟨v3, W3, hv3, hs3⟩ := bytes_new s hs2 w2
  have hv3 := hv3.out
  have K3 : Aside (Keeps w W3) := K2.out.step hs3.out.2
  clear h2 K1 K2 QA
  cases hf : firstBad s with
  | some i =>
    have C3 := chars_wrong hf v3 W3 hs3.out.1 hs2
    have V := SW.out (by rw [hf]; simp)
    have y0 : (0 : Int) ≤ (i : Int) := by omega
    clear hs3 hf
    go_wp2_with fail
    refine C3.mono ?_; rintro e w4 ⟨x4, rfl, h4⟩
    have K4 : Aside (Keeps w w4) := K3.out.step h4
    clear h4 C3 hv3
    go_wp2_with fail
    refine (RA _).mono ?_; rintro e w5 ⟨rfl, h5⟩
    have K5 : Keeps w w5 := K4.out.step h5
    have C6 := SA.out s w5 (by have := B1.out; omega) K5
    rw [V] at C6
    have K5 := Lib.hid K5
    clear h5 RA V
    go_wp2_with fail
    refine C6.mono ?_; rintro e w6 ⟨rfl, h6⟩
    have K6 : Aside (Keeps w w6) := K5.out.step h6
    clear h6 C6
    go_wp2_with fail
    go_ret
    exact ⟨rfl, K6.out⟩
  | none =>
    have C3 := chars_right hf v3 W3 hs3.out.1 hs2
    have V1 := SQ.out s hf
    have V2 := Lib.hid (SQ.out t hf)
    rw [decide_eq_true rfl] at V1
    clear hs3 hf
    go_wp2_with fail
    refine C3.mono ?_; rintro e w4 ⟨x4, rfl, h4⟩
    have K4 : Aside (Keeps w w4) := K3.out.step h4.out.2
    clear h4 C3 hv3
    go_wp2_with fail
    refine (RA _).mono ?_; rintro e w5 ⟨rfl, h5⟩
    have K5 : Keeps w w5 := K4.out.step h5
    have C6 := SA.out s w5 (by have := B1.out; omega) K5
    rw [V1] at C6
    have K5 := Lib.hid K5
    clear h5 RA V1
    go_wp2_with fail
    refine C6.mono ?_; rintro e w6 ⟨rfl, h6⟩
    have K6 : Keeps w w6 := K5.out.step h6
    have C7 := SA.out t w6 (by have := B2.out; omega) K6
    rw [V2.out] at C7
    have K6 := Lib.hid K6
    clear h6 C6
    by_cases e : t = s
    · subst e
      rw [decide_eq_true rfl] at C7
      go_wp2_with fail
      refine C7.mono ?_; rintro e w7 ⟨rfl, h7⟩
      have K7 : Aside (Keeps w w7) := K6.out.step h7
      clear h7 C7
      go_wp2_with fail
      go_ret
      exact ⟨rfl, K7.out⟩
    · have hn := text_ne e
      rw [decide_eq_false e] at C7
      clear e
      go_wp2_with fail
      refine C7.mono ?_; rintro e w7 ⟨rfl, h7⟩
      have K7 : Aside (Keeps w w7) := K6.out.step h7
      clear h7 C7
      go_wp2_with fail
      go_ret
      exact ⟨rfl, K7.out⟩
end Go.Proofs.YtjijdaheabgphaaDoor.globQuotes
