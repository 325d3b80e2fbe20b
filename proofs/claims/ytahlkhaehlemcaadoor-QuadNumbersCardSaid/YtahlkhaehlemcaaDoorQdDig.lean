/- Plain mathematics: a number's digits of a base, from the last one on; their text is read as it. -/
import Derived.Test.YtahlkhaehlemcaaDoorQdParse
set_option linter.unusedSimpArgs false
set_option linter.unusedVariables false
namespace Go.Proofs.YtahlkhaehlemcaaDoor.qdig
open Go.Proofs.YtahlkhaehlemcaaDoor.qmath Go.Proofs.YtahlkhaehlemcaaDoor.qread Go.Proofs.YtahlkhaehlemcaaDoor.qfields Go.Proofs.YtahlkhaehlemcaaDoor.qlaid Go.Proofs.YtahlkhaehlemcaaDoor.qparse

/-- A digit's letter: great and small ones mixed, as the law has them. -/
def letter (d : Nat) : UInt8 := [48, 49, 50, 51, 52, 53, 54, 55, 56, 57, 97, 66, 99, 68, 101, 70].getD d 0
theorem letter_val : ∀ d : Fin 16, dval (letter d.1) = d.1 := by decide
theorem letter_dot : ∀ d : Fin 16, letter d.1 ≠ 46 := by decide
theorem letter_is8 : ∀ d : Fin 8, isDig 8 (letter d.1) = true := by decide
theorem letter_is10 : ∀ d : Fin 10, isDig 10 (letter d.1) = true := by decide
theorem letter_is16 : ∀ d : Fin 16, isDig 16 (letter d.1) = true := by decide
theorem letter_is {b d : Nat} (hb : IsBase b) (h : d < b) : isDig b (letter d) = true := by
  rcases hb with rfl | rfl | rfl
  · exact letter_is8 ⟨d, h⟩
  · exact letter_is10 ⟨d, h⟩
  · exact letter_is16 ⟨d, h⟩
theorem base_bounds {b : Nat} (hb : IsBase b) : 2 ≤ b ∧ b ≤ 16 := by rcases hb with rfl | rfl | rfl <;> decide

/-- The digits of a number, in so many steps at most. -/
def dl (b : Nat) : Nat → Nat → List UInt8
  | 0, _ => []
  | g + 1, m => if m = 0 then [] else dl b g (m / b) ++ [letter (m % b)]
theorem dl_zero (b : Nat) : ∀ g, dl b g 0 = []
  | 0 => rfl
  | g + 1 => by simp [dl]
theorem dl_succ {b g m : Nat} (h : m ≠ 0) : dl b (g + 1) m = dl b g (m / b) ++ [letter (m % b)] := by simp [dl, h]

theorem num_append (b : Nat) : ∀ (l r : List UInt8) (acc : Nat), num b acc (l ++ r) = (num b acc l).bind fun x => num b x r
  | [], r, acc => by simp [num]
  | c :: l, r, acc => by
    by_cases h : acc * b + dval c < 18446744073709551616
    · rw [List.cons_append, num_on h, num_on h, num_append b l r]
    · rw [List.cons_append, num_over h, num_over h]; rfl
theorem num_dl {b : Nat} (hb : IsBase b) : ∀ g m, m < 2 ^ g → m < 4294967296 → num b 0 (dl b g m) = some m
  | 0, m, h, _ => by obtain rfl : m = 0 := by omega
                     rfl
  | g + 1, m, h, h2 => by
    obtain ⟨b2, b16⟩ := base_bounds hb
    by_cases hm : m = 0
    · subst hm; rw [dl_zero]; rfl
    · rw [dl_succ hm, num_append, num_dl hb g (m / b) (Nat.lt_of_le_of_lt (Nat.div_le_div_left b2 (by decide)) (by rw [Nat.pow_succ] at h; omega)) (Nat.lt_of_le_of_lt (Nat.div_le_self _ _) h2)]
      have hd : m % b < b := Nat.mod_lt _ (by omega)
      have hv : dval (letter (m % b)) = m % b := letter_val ⟨m % b, by omega⟩
      have e : m / b * b + m % b = m := by rw [Nat.mul_comm]; exact Nat.div_add_mod m b
      show num b (m / b) [letter (m % b)] = some m
      rw [num_on (by rw [hv, e]; omega), hv, e]
      rfl
theorem dl_is {b : Nat} (hb : IsBase b) : ∀ g m, ∀ c ∈ dl b g m, isDig b c = true ∧ c ≠ 46
  | 0, m, c, hc => by cases hc
  | g + 1, m, c, hc => by
    obtain ⟨b2, b16⟩ := base_bounds hb
    by_cases hm : m = 0
    · subst hm; rw [dl_zero] at hc; cases hc
    · rw [dl_succ hm] at hc
      have hd : m % b < b := Nat.mod_lt _ (by omega)
      rcases List.mem_append.1 hc with hc | hc
      · exact dl_is hb g _ c hc
      · obtain rfl := List.mem_singleton.1 hc
        exact ⟨letter_is hb hd, letter_dot ⟨m % b, by omega⟩⟩
theorem dl_len {b : Nat} (hb : IsBase b) : ∀ g m, (dl b g m).length ≤ g
  | 0, m => Nat.le_refl _
  | g + 1, m => by
    by_cases hm : m = 0
    · subst hm; rw [dl_zero]; exact Nat.zero_le _
    · rw [dl_succ hm, List.length_append]; have := dl_len hb g (m / b); simp; omega
/-- The first digit is no nought. -/
theorem dl_head {b : Nat} (hb : IsBase b) : ∀ g m, m < 2 ^ g → m ≠ 0 → ∃ d r, dl b g m = letter d :: r ∧ 0 < d ∧ d < b
  | 0, m, h, hm => by omega
  | g + 1, m, h, hm => by
    obtain ⟨b2, b16⟩ := base_bounds hb
    rw [dl_succ hm]
    by_cases h0 : m / b = 0
    · rw [h0, dl_zero]
      have : m < b := by rcases Nat.div_eq_zero_iff.1 h0 with h | h <;> omega
      exact ⟨m % b, [], rfl, by rw [Nat.mod_eq_of_lt this]; omega, Nat.mod_lt _ (by omega)⟩
    · obtain ⟨d, r, e, h1, h2⟩ := dl_head hb g (m / b) (Nat.lt_of_le_of_lt (Nat.div_le_div_left b2 (by decide)) (by rw [Nat.pow_succ] at h; omega)) h0
      exact ⟨d, r ++ [letter (m % b)], by rw [e]; rfl, h1, h2⟩
end Go.Proofs.YtahlkhaehlemcaaDoor.qdig
