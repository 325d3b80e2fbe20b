/- The document's own Match of any pattern and any text; the language over characters that are made small ahead. -/
import Derived.Test.YtoilalffhmjhdaaGreatDoorGlRight
import Derived.Test.YtoilalffhmjhdaaGreatDoorGlLower
set_option linter.unusedSimpArgs false
set_option linter.unusedVariables false
namespace Go.Proofs.YtoilalffhmjhdaaGreatDoor.subst
open Go.RowKit Go.Proofs.YtoilalffhmjhdaaGreatDoor.errs Go.Proofs.YtoilalffhmjhdaaGreatDoor.rows Go.Proofs.YtoilalffhmjhdaaGreatDoor.utf Go.Proofs.YtoilalffhmjhdaaGreatDoor.chars Go.Proofs.YtoilalffhmjhdaaGreatDoor.gmath Go.Proofs.YtoilalffhmjhdaaGreatDoor.glref Go.Proofs.YtoilalffhmjhdaaGreatDoor.lower

theorem rmatch_any (fold : Bool) (p s : ByteArray) (hp : p.size ≤ 1000000) (hs : s.size ≤ 1000000) (w : World) :
    Calls Tryz.prog 80 #[.string p, .string s, .bool fold] w fun e w' => e = .returned (.bool (matchOf fold p s)) ∧ Below w.heap.size w w' := by
  by_cases hc : (checkOf p).1 = 0
  · have hf : firstBad p = none ∧ checkOf p = (0, 0) := by
      unfold checkOf at hc ⊢
      by_cases h : 1024 < p.size
      · rw [if_pos h] at hc; exact absurd hc (by decide)
      · rw [if_neg h] at hc ⊢
        cases h2 : firstBad p with
        | none => exact ⟨rfl, rfl⟩
        | some i => rw [h2] at hc; exact absurd hc (show ¬ ((12 : Int) = 0) by decide)
    unfold matchOf
    cases hs2 : firstBad s with
    | none =>
      rw [decide_eq_true hc]
      exact rmatch_right fold p s hp hs hf.2 hf.1 hs2 w
    | some i =>
      rw [show (decide ((checkOf p).1 = 0) && (some i).isNone && lang fold (all p) (all s)) = false by simp]
      exact rmatch_text fold p s hp hs hf.2 hs2 w
  · unfold matchOf
    rw [decide_eq_false hc]
    exact rmatch_wrong fold p s hp hs hc w

theorem small_sign (c : Int) (k : Int) (h : k = 42 ∨ k = 63) : (small c = k) = (c = k) := by
  unfold small
  apply propext
  split <;> omega
theorem same_small (c x : Int) : sameC true c x = decide (small c = small x) := by
  unfold sameC
  split
  · rename_i h
    have : (c = x) = (small c = small x) := by
      unfold small
      apply propext
      simp at h
      split <;> split <;> omega
    rw [decide_eq_decide.2 (by rw [this])]
  · rfl
theorem same_plain (c x : Int) : sameC false c x = decide (c = x) := by unfold sameC; rw [if_pos (.inl rfl)]
def fo (fold : Bool) (c : Int) : Int := if fold then small c else c
theorem fo_sign (fold : Bool) (c k : Int) (h : k = 42 ∨ k = 63) : (fo fold c = k) = (c = k) := by
  unfold fo
  cases fold with
  | true => rw [if_pos rfl, small_sign c k h]
  | false => rfl
theorem fo_dec (fold : Bool) (c k : Int) (h : k = 42 ∨ k = 63) : decide (fo fold c = k) = decide (c = k) := decide_eq_decide.2 (by rw [fo_sign fold c k h])
theorem fo_same (fold : Bool) (c x : Int) : decide (fo fold c = fo fold x) = sameC fold c x := by
  unfold fo
  cases fold with
  | true => rw [same_small]; rfl
  | false => rw [same_plain]; rfl
theorem fo_false (l : List Int) : l.map (fo false) = l := by
  have e : fo false = id := by funext c; rfl
  rw [e, List.map_id]
/-- Made small ahead, what is held against each other is held as it stands. -/
theorem lang_fo (fold : Bool) : ∀ (P T : List Int), lang fold P T = lang false (P.map (fo fold)) (T.map (fo fold))
  | [], T => by
    rw [lang_nil]
    show _ = lang false [] _
    rw [lang_nil]
    cases T <;> rfl
  | c :: P, T => by
    induction T with
    | nil =>
      rw [lang_end, lang_fo fold P []]
      show _ = lang false (fo fold c :: P.map (fo fold)) []
      rw [lang_end, fo_dec fold c 42 (.inl rfl)]
      rfl
    | cons x r ih =>
      show _ = lang false (fo fold c :: P.map (fo fold)) (fo fold x :: r.map (fo fold))
      by_cases hc : c = 42
      · subst hc
        have e : fo fold 42 = 42 := by rw [fo_sign fold 42 42 (.inl rfl)]
        rw [lang_star, ih, lang_fo fold P (x :: r), e, lang_star]
        simp only [List.map_cons, e]
      · have e : ¬ fo fold c = 42 := by rw [fo_sign fold c 42 (.inl rfl)]; exact hc
        rw [lang_one fold hc, lang_one false e, lang_fo fold P r, same_plain, fo_same, fo_dec fold c 63 (.inr rfl)]
end Go.Proofs.YtoilalffhmjhdaaGreatDoor.subst
