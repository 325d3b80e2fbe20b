/- Plain mathematics: the document's way to read a pattern with points and stars tells the same parts, and the same that is wrong, as the program's. -/
import Derived.Test.YtjijdaheabgphaaDoorGqMath
set_option linter.unusedSimpArgs false
set_option linter.unusedVariables false
namespace Go.Proofs.YtjijdaheabgphaaDoor.gparts
open Go.RowKit Go.Proofs.YtjijdaheabgphaaDoor.errs Go.Proofs.YtjijdaheabgphaaDoor.rows Go.Proofs.YtjijdaheabgphaaDoor.utf Go.Proofs.YtjijdaheabgphaaDoor.chars Go.Proofs.YtjijdaheabgphaaDoor.gmath Go.Proofs.YtjijdaheabgphaaDoor.glref Go.Proofs.YtjijdaheabgphaaDoor.lower Go.Proofs.YtjijdaheabgphaaDoor.ref Go.Proofs.YtjijdaheabgphaaDoor.umath Go.Proofs.YtjijdaheabgphaaDoor.text

/-- The program's way, over characters and their places. -/
def prP (size : Int) : List Int → Int → List Pt → Bool → (Int × Int) × List Pt
  | [], pl, acc, esc => if esc then ((10, size), []) else ((0, 0), acc)
  | c :: r, pl, acc, esc => if c = 42 ∧ esc = false then (if acc.length = 0 ∨ lastMany acc = true then ((11, pl), []) else prP size r (pl + (put c).length) (manyLast acc) false)
    else if c = 92 ∧ esc = false then prP size r (pl + (put c).length) acc true
    else prP size r (pl + (put c).length) (acc ++ [⟨c, decide (c = 46) && !esc, false⟩]) false
theorem prs_prP (s : ByteArray) : ∀ (g i : Nat) (acc : List Pt) (esc : Bool), s.size ≤ i + g → scan s g i = none → prs s g i acc esc = prP s.size (from_ s g i) i acc esc
  | 0, i, acc, esc, _, _ => by unfold prs from_ prP; rfl
  | g + 1, i, acc, esc, hg, hs => by
    obtain ⟨-, b2, -⟩ := decode_bounds s i
    by_cases hi : i < s.size
    · cases hc : charAt s i with
      | false => rw [scan_bad s g i hi hc] at hs; cases hs
      | true =>
        rw [scan_step s g i hi hc] at hs
        obtain ⟨-, r2, -⟩ := char_put s i hi hc
        have ih := fun acc esc => prs_prP s g (i + (Utf8.decode s i).2) acc esc (by omega) hs
        rw [from_step s g i hi]
        unfold prs prP
        rw [if_pos hi, r2]
        have e : ((i + (Utf8.decode s i).2 : Nat) : Int) = (i : Int) + ((Utf8.decode s i).2 : Int) := by omega
        rw [← e, ih, ih, ih]
    · rw [prs_end s _ i acc esc hi, from_end s _ i (by omega)]
      unfold prP
      rfl

/-- One part, and its star. -/
def stepD (f : List Int → Int → List Pt → (Int × Int) × List Pt) (d : Int) (w : Bool) (r : List Int) (pl : Int) (acc : List Pt) : (Int × Int) × List Pt :=
  if r.head? = some 42 then f r.tail (pl + (put d).length + 1) (acc ++ [⟨d, w, true⟩]) else f r (pl + (put d).length) (acc ++ [⟨d, w, false⟩])
/-- The document's way. -/
def dprs (size : Int) : Nat → List Int → Int → List Pt → (Int × Int) × List Pt
  | 0, _, _, acc => ((0, 0), acc)
  | _ + 1, [], _, acc => ((0, 0), acc)
  | g + 1, c :: r, pl, acc => if c = 42 then ((11, pl), []) else if c = 92 then
      (match r with | [] => ((10, size), []) | d :: r' => stepD (dprs size g) d false r' (pl + 1) acc)
    else stepD (dprs size g) c (decide (c = 46)) r pl acc

theorem at_last (acc : List Pt) (q : Pt) : at_ (acc ++ [q]) ((acc ++ [q]).length - 1) = q := by
  unfold at_
  rw [List.length_append, List.length_singleton, Nat.add_sub_cancel, List.getD_eq_getElem?_getD, List.getElem?_append_right (Nat.le_refl _), Nat.sub_self]
  rfl
theorem lastMany_snoc (acc : List Pt) (q : Pt) : lastMany (acc ++ [q]) = q.many := by unfold lastMany; rw [at_last]
theorem manyLast_snoc (acc : List Pt) (q : Pt) : manyLast (acc ++ [q]) = acc ++ [⟨q.char, q.free, true⟩] := by
  unfold manyLast
  rw [at_last, List.dropLast_concat]
theorem put42 : put 42 = [42] := by decide
theorem put92 : put 92 = [92] := by decide
theorem stepD_prP (size : Int) (g : Nat) (ih : ∀ L pl acc, L.length ≤ g → (acc.length = 0 ∨ lastMany acc = true ∨ L.head? ≠ some 42) → prP size L pl acc false = dprs size g L pl acc)
    (d : Int) (w : Bool) (r : List Int) (pl : Int) (acc : List Pt) (h : r.length ≤ g) : prP size r (pl + (put d).length) (acc ++ [⟨d, w, false⟩]) false = stepD (dprs size g) d w r pl acc := by
  unfold stepD
  cases r with
  | nil => rw [if_neg (by simp)]; exact ih _ _ _ h (.inr (.inr (by simp)))
  | cons x r =>
    by_cases hx : x = 42
    · subst hx
      rw [if_pos (show ((42 : Int) :: r).head? = some 42 from rfl)]
      unfold prP
      rw [if_pos ⟨rfl, rfl⟩, if_neg (by
        rw [lastMany_snoc, List.length_append, List.length_singleton]
        simp), manyLast_snoc, put42]
      refine ih _ _ _ (by rw [List.length_cons] at h; show r.length ≤ g; omega) (.inr (.inl ?_))
      rw [lastMany_snoc]
    · have hh : (x :: r).head? ≠ some 42 := by
        show some x ≠ some 42
        exact fun e => hx (Option.some.inj e)
      rw [if_neg hh]
      exact ih _ _ _ h (.inr (.inr hh))
theorem prP_D (size : Int) : ∀ (g : Nat) (L : List Int) (pl : Int) (acc : List Pt), L.length ≤ g → (acc.length = 0 ∨ lastMany acc = true ∨ L.head? ≠ some 42) → prP size L pl acc false = dprs size g L pl acc
  | 0, L, pl, acc, hg, _ => by
    have : L = [] := List.length_eq_zero_iff.1 (by omega)
    subst this
    unfold prP dprs
    rw [if_neg (by decide)]
  | g + 1, [], pl, acc, hg, _ => by
    unfold prP dprs
    rw [if_neg (by decide)]
  | g + 1, c :: r, pl, acc, hg, hI => by
    have hr : r.length ≤ g := by rw [List.length_cons] at hg; omega
    unfold dprs
    by_cases h42 : c = 42
    · subst h42
      rw [if_pos rfl]
      unfold prP
      rw [if_pos ⟨rfl, rfl⟩, if_pos]
      rcases hI with h | h | h
      · exact .inl h
      · exact .inr h
      · exact absurd rfl h
    · rw [if_neg h42]
      by_cases h92 : c = 92
      · subst h92
        rw [if_pos rfl]
        unfold prP
        rw [if_neg (fun h => h42 h.1), if_pos ⟨rfl, rfl⟩, put92]
        cases r with
        | nil => unfold prP; rw [if_pos rfl]
        | cons d r' =>
          have hr' : r'.length ≤ g := by rw [List.length_cons] at hr; omega
          unfold prP
          rw [if_neg (fun h => by cases h.2), if_neg (fun h => by cases h.2), Bool.not_true, Bool.and_false]
          exact stepD_prP size g (fun L pl acc h1 h2 => prP_D size g L pl acc h1 h2) d false r' (pl + 1) acc hr'
      · rw [if_neg h92]
        unfold prP
        rw [if_neg (fun h => h42 h.1), if_neg (fun h => h92 h.1), Bool.not_false, Bool.and_true]
        exact stepD_prP size g (fun L pl acc h1 h2 => prP_D size g L pl acc h1 h2) c (decide (c = 46)) r pl acc hr
theorem prsOf_D (p : ByteArray) (h : firstBad p = none) : prsOf p = dprs p.size (all p).length (all p) 0 [] := by
  unfold prsOf
  rw [prs_prP p p.size 0 [] false (by omega) h]
  exact prP_D p.size _ _ _ _ (Nat.le_refl _) (.inl rfl)
/-- Parts from a place on. -/
theorem dprs_step (size : Int) (g : Nat) (L : List Int) (k : Nat) (pl : Int) (acc : List Pt) (h : k < L.length) : dprs size (g + 1) (L.drop k) pl acc =
    if L.getD k 0 = 42 then ((11, pl), []) else if L.getD k 0 = 92 then
      (if k + 1 < L.length then stepD (dprs size g) (L.getD (k + 1) 0) false (L.drop (k + 2)) (pl + 1) acc else ((10, size), []))
    else stepD (dprs size g) (L.getD k 0) (decide (L.getD k 0 = 46)) (L.drop (k + 1)) pl acc := by
  rw [drop_at L k h]
  unfold dprs
  by_cases h2 : k + 1 < L.length
  · rw [drop_at L (k + 1) h2, if_pos h2]
  · rw [if_neg h2, List.drop_of_length_le (show L.length ≤ k + 1 by omega)]
theorem stepD_at (f : List Int → Int → List Pt → (Int × Int) × List Pt) (d : Int) (w : Bool) (L : List Int) (k : Nat) (pl : Int) (acc : List Pt) : stepD f d w (L.drop k) pl acc =
    if k < L.length ∧ L.getD k 0 = 42 then f (L.drop (k + 1)) (pl + (put d).length + 1) (acc ++ [⟨d, w, true⟩]) else f (L.drop k) (pl + (put d).length) (acc ++ [⟨d, w, false⟩]) := by
  unfold stepD
  by_cases h : k < L.length
  · rw [drop_at L k h]
    show (if some (L.getD k 0) = some 42 then _ else _) = _
    by_cases e : L.getD k 0 = 42
    · rw [if_pos (congrArg some e), if_pos ⟨h, e⟩]; rfl
    · rw [if_neg (fun q => e (Option.some.inj q)), if_neg (fun q => e q.2)]
  · rw [List.drop_of_length_le (show L.length ≤ k by omega), if_neg (by simp), if_neg (fun q => h q.1)]
end Go.Proofs.YtjijdaheabgphaaDoor.gparts
