/- The example of the document, as the statements of layer 9 ask it first: it holds in every world. -/
import Derived.Test.YthkpkohgefikeaaEncode
set_option linter.unusedSimpArgs false
set_option linter.unusedVariables false
namespace Go.Proofs.Ythkpkohgefikeaa.puny
open Go.RowKit Go.Proofs.Ythkpkohgefikeaa.build

def word : List Int := [98, 252, 99, 104, 101, 114]
theorem word_rounds : roundsOf word = [252] := by
  unfold roundsOf
  rw [show codedOf word = [252] by decide, List.mergeSort_singleton]
  decide
theorem word_digits : digitsOf 745 72 36 = [107, 118, 97] := by
  rw [digits_more (t := 1) (by decide) (by decide), show (745 - 1) / (36 - 1) = 21 by decide, digits_more (t := 1) (by decide) (by decide), show (21 - 1) / (36 - 1) = 0 by decide, digits_last (t := 26) (by decide) (by decide)]
  decide
theorem word_bias : adapt (745 : Nat) (6 : Nat) true = 0 := by
  unfold adapt biasOf
  rw [if_neg (by decide), show share (Int.toNat ((745 : Nat) : Int)) true + share (Int.toNat ((745 : Nat) : Int)) true / Int.toNat ((6 : Nat) : Int) = 1 by decide, shrink_done 0 (by decide)]
  decide
theorem word0 : encAt word 252 0 = ⟨[98, 99, 104, 101, 114, 45], 744, 5, 72, false⟩ := by rw [encAt_zero]; rfl
theorem word1 : encAt word 252 1 = ⟨[98, 99, 104, 101, 114, 45], 745, 5, 72, false⟩ := by
  rw [encAt_succ word 252 0 (by decide), word0, one_less _ (by decide)]
theorem word2 : encAt word 252 2 = ⟨[98, 99, 104, 101, 114, 45, 107, 118, 97], 0, 6, 0, true⟩ := by
  rw [encAt_succ word 252 1 (by decide), word1, one_same _ (by decide)]
  dsimp only
  rw [word_digits]
  rw [show adapt ((745 : Nat) : Int) ((5 + 1 : Nat) : Int) (!false) = 0 from word_bias]
  rfl
theorem word3 : encAt word 252 3 = ⟨[98, 99, 104, 101, 114, 45, 107, 118, 97], 1, 6, 0, true⟩ := by
  rw [encAt_succ word 252 2 (by decide), word2, one_less _ (by decide)]
theorem word4 : encAt word 252 4 = ⟨[98, 99, 104, 101, 114, 45, 107, 118, 97], 2, 6, 0, true⟩ := by
  rw [encAt_succ word 252 3 (by decide), word3, one_less _ (by decide)]
theorem word5 : encAt word 252 5 = ⟨[98, 99, 104, 101, 114, 45, 107, 118, 97], 3, 6, 0, true⟩ := by
  rw [encAt_succ word 252 4 (by decide), word4, one_less _ (by decide)]
theorem word6 : encAt word 252 6 = ⟨[98, 99, 104, 101, 114, 45, 107, 118, 97], 4, 6, 0, true⟩ := by
  rw [encAt_succ word 252 5 (by decide), word5, one_less _ (by decide)]
theorem word_fits (j : Nat) (h : j ≤ 6) : (encAt word 252 j).Fits := by
  rcases (show j = 0 ∨ j = 1 ∨ j = 2 ∨ j = 3 ∨ j = 4 ∨ j = 5 ∨ j = 6 by omega) with rfl | rfl | rfl | rfl | rfl | rfl | rfl
  · rw [word0]; unfold Enc.Fits; decide
  · rw [word1]; unfold Enc.Fits; decide
  · rw [word2]; unfold Enc.Fits; decide
  · rw [word3]; unfold Enc.Fits; decide
  · rw [word4]; unfold Enc.Fits; decide
  · rw [word5]; unfold Enc.Fits; decide
  · rw [word6]; unfold Enc.Fits; decide

theorem speaks_any (w : World) : Calls Try.prog 4 #[] w fun e w' => e = .returned (.bool true) ∧ Below w.heap.size w w' := by
  have C := encode_one w.heap.size 0 6 6 word 252 (w.alloc (.cells #[.int .i64 98, .int .i64 252, .int .i64 99, .int .i64 104, .int .i64 101, .int .i64 114] 3)) rfl (by decide) (by decide) (by simp) ?_ ?_ word_rounds (by decide) (by decide) word_fits
  · rw [word6] at C
    have C : Calls Try.prog 7 #[.slice (some ⟨w.heap.size, 0, none⟩) 6 6] (w.alloc (.cells #[.int .i64 98, .int .i64 252, .int .i64 99, .int .i64 104, .int .i64 101, .int .i64 114] 3)) fun e w' => e = .returned (.tuple #[.string ⟨#[98, 99, 104, 101, 114, 45, 107, 118, 97]⟩, .nilIface]) ∧ Below w.heap.size w w' :=
      C.mono fun e w' ⟨h1, h2⟩ => ⟨h1, ((Below.refl w.heap.size w).alloc (Nat.le_refl _) _).trans (h2.mono (by simp))⟩
    go_enter Try.func4, Try.ntmps4
    go_wp2_with fail
    refine C.mono ?_; rintro e w1 ⟨rfl, hb⟩
    go_wp2_with fail
    go_ret
    exact ⟨rfl, hb⟩
  · intro j hj
    rw [World.cell?_alloc_at _ _ _ _ rfl, Nat.zero_add]
    rcases (show j = 0 ∨ j = 1 ∨ j = 2 ∨ j = 3 ∨ j = 4 ∨ j = 5 by omega) with rfl | rfl | rfl | rfl | rfl | rfl <;> rfl
  · intro j hj
    rcases (show j = 0 ∨ j = 1 ∨ j = 2 ∨ j = 3 ∨ j = 4 ∨ j = 5 by omega) with rfl | rfl | rfl | rfl | rfl | rfl <;> decide

/-- The law: for every input it is true. -/
theorem law_any (delta count : Int) (first : Bool) (w : World) : Calls Try.prog 3 #[.int .i64 delta, .int .i64 count, .bool first] w fun e w' => e = .returned (.bool true) ∧ Below w.heap.size w w' := by
  have S := speaks_any w
  by_cases hd : 1099511627776 < delta
  · go_enter Try.func3, Try.ntmps3
    go_wp2_with fail
    refine S.mono ?_; rintro e w1 ⟨rfl, hb⟩
    go_wp2_with fail
    go_ret
    exact ⟨rfl, hb⟩
  by_cases hc : 1099511627776 < count
  · go_enter Try.func3, Try.ntmps3
    go_wp2_with fail
    refine S.mono ?_; rintro e w1 ⟨rfl, hb⟩
    go_wp2_with fail
    go_ret
    exact ⟨rfl, hb⟩
  have A := fun w => adapt_any delta count first w (by omega)
  have R := fun w => radapt_any delta count first w (by omega)
  generalize adapt delta count first = x at *
  go_enter Try.func3, Try.ntmps3
  go_wp2_with fail
  refine S.mono ?_; rintro e w1 ⟨rfl, hb⟩
  go_wp2_with fail
  refine (A w1).mono ?_; rintro e w2 ⟨rfl, rfl⟩
  go_wp2_with fail
  refine (R w1).mono ?_; rintro e w2 ⟨rfl, rfl⟩
  go_wp2_with fail
  go_ret
  exact ⟨rfl, hb⟩
end Go.Proofs.Ythkpkohgefikeaa.puny
