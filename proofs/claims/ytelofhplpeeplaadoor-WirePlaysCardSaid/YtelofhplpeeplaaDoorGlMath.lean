/- Plain mathematics of layer 15: which texts are in a pattern's language, over characters. -/
import Derived.Lib.Hide
set_option linter.unusedSimpArgs false
set_option linter.unusedVariables false
namespace Go.Proofs.YtelofhplpeeplaaDoor.gmath

/-- Two characters are one, or, if wanted, one but for great and small letters. -/
def small (n : Int) : Int := if 65 ≤ n ∧ n ≤ 90 then n + 32 else n
def sameC (fold : Bool) (a b : Int) : Bool := if fold = false ∨ 127 < a ∨ 127 < b then decide (a = b) else decide (small a = small b)
/-- Is a text in the language of a pattern of stars and question marks? -/
def lang (fold : Bool) : List Int → List Int → Bool
  | [], t => t.isEmpty
  | c :: p, [] => decide (c = 42) && lang fold p []
  | c :: p, x :: r => if c = 42 then lang fold p (x :: r) || lang fold (c :: p) r else (decide (c = 63) || sameC fold c x) && lang fold p r
termination_by p t => (p.length, t.length)
theorem lang_nil (fold : Bool) (t : List Int) : lang fold [] t = t.isEmpty := by unfold lang; rfl
theorem lang_end (fold : Bool) (c : Int) (p : List Int) : lang fold (c :: p) [] = (decide (c = 42) && lang fold p []) := by rw [lang]
theorem lang_star (fold : Bool) (p : List Int) (x : Int) (r : List Int) : lang fold (42 :: p) (x :: r) = (lang fold p (x :: r) || lang fold (42 :: p) r) := by rw [lang]; simp
theorem lang_one (fold : Bool) {c : Int} (hc : c ≠ 42) (p : List Int) (x : Int) (r : List Int) : lang fold (c :: p) (x :: r) = ((decide (c = 63) || sameC fold c x) && lang fold p r) := by rw [lang]; simp [hc]

/-- What stands at a place of the row of truths for a pattern's rest. -/
def at_ (fold : Bool) (p t : List Int) (k : Nat) : Bool := lang fold p (t.drop k)
theorem at_nil (fold : Bool) (t : List Int) (k : Nat) (hk : k ≤ t.length) : at_ fold [] t k = decide (k = t.length) := by
  unfold at_
  rw [lang_nil]
  by_cases h : k = t.length
  · rw [decide_eq_true h, h, List.drop_length]; rfl
  · rw [decide_eq_false h]
    have : k < t.length := by omega
    rw [List.drop_eq_getElem_cons this]
    rfl
theorem at_star_end (fold : Bool) (p t : List Int) : at_ fold (42 :: p) t t.length = at_ fold p t t.length := by
  unfold at_
  rw [List.drop_length, lang_end]
  simp
theorem at_star (fold : Bool) (p t : List Int) (k : Nat) (hk : k < t.length) : at_ fold (42 :: p) t k = (at_ fold p t k || at_ fold (42 :: p) t (k + 1)) := by
  unfold at_
  rw [List.drop_eq_getElem_cons hk, lang_star]
theorem at_one_end (fold : Bool) {c : Int} (hc : c ≠ 42) (p t : List Int) : at_ fold (c :: p) t t.length = false := by
  unfold at_
  rw [List.drop_length, lang_end, decide_eq_false hc]
  rfl
theorem at_one (fold : Bool) {c : Int} (hc : c ≠ 42) (p t : List Int) (k : Nat) (hk : k < t.length) : at_ fold (c :: p) t k = ((decide (c = 63) || sameC fold c (t.getD k 0)) && at_ fold p t (k + 1)) := by
  unfold at_
  rw [List.drop_eq_getElem_cons hk, lang_one fold hc, List.getD_eq_getElem?_getD, List.getElem?_eq_getElem hk]
  rfl
theorem drop_at (l : List Int) (i : Nat) (h : i < l.length) : l.drop i = l.getD i 0 :: l.drop (i + 1) := by
  rw [List.drop_eq_getElem_cons h, List.getD_eq_getElem?_getD, List.getElem?_eq_getElem h]
  rfl
/-- The row for a pattern's rest, from the row for what is behind its first part. -/
def stepAt (fold : Bool) (c : Int) (ends : Nat → Bool) (t : List Int) (more : Bool) (k : Nat) : Bool :=
  if c = 42 then ends k || (decide (k < t.length) && more) else decide (k < t.length) && ((decide (c = 63) || sameC fold c (t.getD k 0)) && ends (k + 1))
theorem step_at (fold : Bool) (l t : List Int) (i k : Nat) (hi : i < l.length) (hk : k ≤ t.length) :
    at_ fold (l.drop i) t k = stepAt fold (l.getD i 0) (at_ fold (l.drop (i + 1)) t) t (at_ fold (l.drop i) t (k + 1)) k := by
  rw [drop_at l i hi]
  generalize l.getD i 0 = c
  generalize l.drop (i + 1) = p
  unfold stepAt
  by_cases hc : c = 42
  · subst hc
    rw [if_pos rfl]
    by_cases h : k < t.length
    · rw [at_star fold p t k h, decide_eq_true h]; rfl
    · obtain rfl : k = t.length := by omega
      rw [at_star_end, decide_eq_false h, Bool.false_and, Bool.or_false]
  · rw [if_neg hc]
    by_cases h : k < t.length
    · rw [at_one fold hc p t k h, decide_eq_true h, Bool.true_and]
    · obtain rfl : k = t.length := by omega
      rw [at_one_end fold hc, decide_eq_false h, Bool.false_and]
end Go.Proofs.YtelofhplpeeplaaDoor.gmath
