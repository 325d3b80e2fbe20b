/- Plain mathematics of layer 15: which texts are in a pattern's language, over characters. -/
import Derived.Lib.Hide
set_option linter.unusedSimpArgs false
set_option linter.unusedVariables false
namespace Go.Proofs.YtoilalffhmjhdaaGreatDoor.gmath

/-- Two characters are one, or, if wanted, one but for great and small letters. -/
def small (n : Int) : Int := if 65 ≤ n ∧ n ≤ 90 then n + 32 else n
def sameC (fold : Bool) (a b : Int) : Bool := if fold = false ∨ 127 < a ∨ 127 < b then decide (a = b) else decide (small a = small b)
/-- Is a text in the language of a pattern of stars and question marks? -/
def lang (fold : Bool) : List Int → List Int → Bool
  | [], t => t.isEmpty
  | c :: p, [] => decide (c = 42) && lang fold p []
  | c :: p, x :: r => if c = 42 then lang fold p (x :: r) || lang fold (c :: p) r else (decide (c = 63) || sameC fold c x) && lang fold p r
termination_by p t => (p.length, t.length)
theorem lang_nil (fold : Bool) (t : List Int) : lang fold [] t = t.isEmpty := by unfold lang; rfl
theorem lang_end (fold : Bool) (c : Int) (p : List Int) : lang fold (c :: p) [] = (decide (c = 42) && lang fold p []) := by rw [lang]
theorem lang_star (fold : Bool) (p : List Int) (x : Int) (r : List Int) : lang fold (42 :: p) (x :: r) = (lang fold p (x :: r) || lang fold (42 :: p) r) := by rw [lang]; simp
theorem lang_one (fold : Bool) {c : Int} (hc : c ≠ 42) (p : List Int) (x : Int) (r : List Int) : lang fold (c :: p) (x :: r) = ((decide (c = 63) || sameC fold c x) && lang fold p r) := by rw [lang]; simp [hc]

/-- What stands at a place of the row of truths for a pattern's rest. -/
def at_ (fold : Bool) (p t : List Int) (k : Nat) : Bool := lang fold p (t.drop k)
theorem at_nil (fold : Bool) (t : List Int) (k : Nat) (hk : k ≤ t.length) : at_ fold [] t k = decide (k = t.length) := by
  unfold at_
  rw [lang_nil]
  by_cases h : k = t.length
  · rw [decide_eq_true h, h, List.drop_length]; rfl
  · rw [decide_eq_false h]
    have : k < t.length := by omega
    rw [List.drop_eq_getElem_cons this]
    rfl
theorem at_star_end (fold : Bool) (p t : List Int) : at_ fold (42 :: p) t t.length = at_ fold p t t.length := by
  unfold at_
  rw [List.drop_length, lang_end]
  simp
theorem at_star (fold : Bool) (p t : List Int) (k : Nat) (hk : k < t.length) : at_ fold (42 :: p) t k = (at_ fold p t k || at_ fold (42 :: p) t (k + 1)) := by
  unfold at_
  rw [List.drop_eq_getElem_cons hk, lang_star]
theorem at_one_end (fold : Bool) {c : Int} (hc : c ≠ 42) (p t : List Int) : at_ fold (c :: p) t t.length = false := by
  unfold at_
  rw [List.drop_length, lang_end, decide_eq_false hc]
  rfl
theorem at_one (fold : Bool) {c : Int} (hc : c ≠ 42) (p t : List Int) (k : Nat) (hk : k < t.length) : at_ fold (c :: p) t k = ((decide (c = 63) || sameC fold c (t.getD k 0)) && at_ fold p t (k + 1)) := by
  unfold at_
  rw [List.drop_eq_getElem_cons hk, lang_one fold hc, List.getD_eq_getElem?_getD, List.getElem?_eq_getElem hk]
  rfl
theorem drop_at (l : List Int) (i : Nat) (h : i < l.length) : l.drop i = l.getD i 0 :: l.drop (i + 1) := by
  rw [List.drop_eq_getElem_cons h, List.getD_eq_getElem?_getD, List.getElem?_eq_getElem h]
  rfl
/-- The row for a pattern's rest, from the row for what is behind its first part. -/
def stepAt (fold : Bool) (c : Int) (ends : Nat → Bool) (t : List Int) (more : Bool) (k : Nat) : Bool :=
  if c = 42 then ends k || (decide (k < t.length) && more) else decide (k < t.length) && ((decide (c = 63) || sameC fold c (t.getD k 0)) && ends (k + 1))
theorem step_at (fold : Bool) (l t : List Int) (i k : Nat) (hi : i < l.length) (hk : k ≤ t.length) :
    at_ fold (l.drop i) t k = stepAt fold (l.getD i 0) (at_ fold (l.drop (i + 1)) t) t (at_ fold (l.drop i) t (k + 1)) k := by
  rw [drop_at l i hi]
  generalize l.getD i 0 = c
  generalize l.drop (i + 1) = p
  unfold stepAt
  by_cases hc : c = 42
  · subst hc
    rw [if_pos rfl]
    by_cases h : k < t.length
    · rw [at_star fold p t k h, decide_eq_true h]; rfl
    · obtain rfl : k = t.length := by omega
      rw [at_star_end, decide_eq_false h, Bool.false_and, Bool.or_false]
  · rw [if_neg hc]
    by_cases h : k < t.length
    · rw [at_one fold hc p t k h, decide_eq_true h, Bool.true_and]
    · obtain rfl : k = t.length := by omega
      rw [at_one_end fold hc, decide_eq_false h, Bool.false_and]
end Go.Proofs.YtoilalffhmjhdaaGreatDoor.gmath
/- Plain mathematics of layer 19: the places of a text that a pattern's parts can end at. -/
set_option linter.unusedSimpArgs false
set_option linter.unusedVariables false
namespace Go.Proofs.YtoilalffhmjhdaaGreatDoor.subst
open Go.Proofs.YtoilalffhmjhdaaGreatDoor.gmath

/-- Lists of places rise, and none is beyond the end. -/
def Good (n : Nat) (L : List Nat) : Prop := L.Pairwise (· < ·) ∧ ∀ a ∈ L, a ≤ n
theorem good_nil (n : Nat) : Good n [] := ⟨List.Pairwise.nil, fun a h => by cases h⟩
theorem good_zero (n : Nat) : Good n [0] := ⟨List.pairwise_singleton _ _, fun a h => by rw [List.mem_singleton.1 h]; exact Nat.zero_le _⟩

/-- What stands from one place to another one. -/
def piece (T : List Int) (a k : Nat) : List Int := (T.drop a).take (k - a)
theorem piece_same (T : List Int) (a : Nat) : piece T a a = [] := by unfold piece; rw [Nat.sub_self, List.take_zero]
theorem piece_next (T : List Int) (a k : Nat) (h : a < k) (hk : k ≤ T.length) : piece T a k = T.getD a 0 :: piece T (a + 1) k := by
  unfold piece
  rw [drop_at T a (by omega), show k - a = (k - (a + 1)) + 1 by omega, List.take_succ_cons]
theorem piece_drop (T : List Int) (a b k : Nat) (h : a ≤ b) : (piece T a k).drop (b - a) = piece T b k := by
  unfold piece
  rw [List.drop_take, List.drop_drop, show a + (b - a) = b by omega, show k - a - (b - a) = k - b by omega]
theorem piece_length (T : List Int) (a k : Nat) (h : a ≤ k) (hk : k ≤ T.length) : (piece T a k).length = k - a := by
  unfold piece
  rw [List.length_take, List.length_drop]
  omega
theorem piece_all (T : List Int) : piece T 0 T.length = T := by unfold piece; rw [List.drop_zero, Nat.sub_zero, List.take_length]
theorem piece_empty (T : List Int) (a k : Nat) (h : a ≤ k) (hk : k ≤ T.length) : (piece T a k).isEmpty = decide (a = k) := by
  by_cases e : a = k
  · subst e; rw [piece_same, decide_eq_true rfl]; rfl
  · rw [piece_next T a k (by omega) hk, decide_eq_false e]; rfl

/-- Behind the places at which a character stands that will do. -/
def behindOne (f : Int → Bool) (T : List Int) (a : Nat) : Option Nat := if a < T.length ∧ f (T.getD a 0) = true then some (a + 1) else none
def behindL (f : Int → Bool) (T : List Int) (L : List Nat) : List Nat := L.filterMap (behindOne f T)
theorem behind_mem (f : Int → Bool) (T : List Int) (L : List Nat) (k : Nat) : k ∈ behindL f T L ↔ ∃ a ∈ L, a < T.length ∧ f (T.getD a 0) = true ∧ k = a + 1 := by
  unfold behindL
  rw [List.mem_filterMap]
  constructor
  · rintro ⟨a, h1, h2⟩
    unfold behindOne at h2
    split at h2
    · rename_i h; cases h2; exact ⟨a, h1, h.1, h.2, rfl⟩
    · cases h2
  · rintro ⟨a, h1, h2, h3, rfl⟩
    exact ⟨a, h1, by unfold behindOne; rw [if_pos ⟨h2, h3⟩]⟩
theorem behind_good {T : List Int} (f : Int → Bool) {L : List Nat} (h : Good T.length L) : Good T.length (behindL f T L) := by
  refine ⟨?_, fun k hk => by obtain ⟨a, _, h2, _, rfl⟩ := (behind_mem f T L k).1 hk; omega⟩
  unfold behindL
  rw [List.pairwise_filterMap]
  refine h.1.imp ?_
  intro a b hab x hx y hy
  unfold behindOne at hx hy
  split at hx
  · split at hy
    · cases hx; cases hy; omega
    · cases hy
  · cases hx
theorem behind_snoc (f : Int → Bool) (T : List Int) (L : List Nat) (a : Nat) : behindL f T (L ++ [a]) = behindL f T L ++ (behindOne f T a).toList := by
  unfold behindL
  rw [List.filterMap_append]
  cases h : behindOne f T a <;> simp [h]
theorem behind_len (f : Int → Bool) (T : List Int) (L : List Nat) : (behindL f T L).length ≤ L.length := List.length_filterMap_le _ _
theorem behind_nil (f : Int → Bool) (T : List Int) : behindL f T [] = [] := rfl

/-- From the first place on. -/
def onwardL (n : Nat) : List Nat → List Nat
  | [] => []
  | a :: _ => List.range' a (n + 1 - a)
theorem onward_mem {n : Nat} {L : List Nat} (h : Good n L) (k : Nat) : k ∈ onwardL n L ↔ ∃ a ∈ L, a ≤ k ∧ k ≤ n := by
  cases L with
  | nil => simp [onwardL]
  | cons a r =>
    show k ∈ List.range' a (n + 1 - a) ↔ _
    rw [List.mem_range'_1]
    have ha := h.2 a (List.mem_cons_self ..)
    constructor
    · intro hk; exact ⟨a, List.mem_cons_self .., by omega, by omega⟩
    · rintro ⟨b, hb, h1, h2⟩
      have : a ≤ b := by
        rcases List.mem_cons.1 hb with rfl | hb
        · exact Nat.le_refl _
        · exact Nat.le_of_lt ((List.pairwise_cons.1 h.1).1 b hb)
      omega
theorem onward_good {n : Nat} {L : List Nat} (h : Good n L) : Good n (onwardL n L) := by
  cases L with
  | nil => exact good_nil n
  | cons a r =>
    refine ⟨List.pairwise_lt_range', fun k hk => ?_⟩
    obtain ⟨_, _, _, h2⟩ := (onward_mem h k).1 hk
    exact h2
theorem onward_len (n : Nat) (L : List Nat) : (onwardL n L).length ≤ n + 1 := by
  cases L with
  | nil => exact Nat.zero_le _
  | cons a r => show (List.range' a (n + 1 - a)).length ≤ _; rw [List.length_range']; omega

/-- One sign more. -/
def stepL (T : List Int) (c : Int) (L : List Nat) : List Nat := if c = 42 then onwardL T.length L else if c = 63 then behindL (fun _ => true) T L else behindL (fun x => decide (x = c)) T L
def patL (T : List Int) (P : List Int) (L : List Nat) : List Nat := P.foldl (fun L c => stepL T c L) L
theorem step_good {T : List Int} (c : Int) {L : List Nat} (h : Good T.length L) : Good T.length (stepL T c L) := by
  unfold stepL
  split
  · exact onward_good h
  · split
    · exact behind_good _ h
    · exact behind_good _ h
theorem step_nil (T : List Int) (c : Int) : stepL T c [] = [] := by
  unfold stepL
  split
  · rfl
  · split <;> rfl
theorem pat_nil (T : List Int) (P : List Int) : patL T P [] = [] := by
  induction P with
  | nil => rfl
  | cons c P ih => show patL T P (stepL T c []) = []; rw [step_nil, ih]
theorem pat_good {T : List Int} (P : List Int) {L : List Nat} (h : Good T.length L) : Good T.length (patL T P L) := by
  induction P generalizing L with
  | nil => exact h
  | cons c P ih => exact ih (step_good c h)

theorem lang_star_iff (P : List Int) : ∀ t : List Int, lang false (42 :: P) t = true ↔ ∃ j, j ≤ t.length ∧ lang false P (t.drop j) = true
  | [] => by
    rw [lang_end]
    simp
  | x :: r => by
    rw [lang_star, Bool.or_eq_true, lang_star_iff P r]
    constructor
    · rintro (h | ⟨j, h1, h2⟩)
      · exact ⟨0, Nat.zero_le _, h⟩
      · exact ⟨j + 1, by rw [List.length_cons]; omega, h2⟩
    · rintro ⟨j, h1, h2⟩
      cases j with
      | zero => exact .inl h2
      | succ j => exact .inr ⟨j, by rw [List.length_cons] at h1; omega, h2⟩
theorem same_lit (c x : Int) : sameC false c x = decide (c = x) := by unfold sameC; rw [if_pos (.inl rfl)]
theorem pat_mem (T : List Int) (P : List Int) (L : List Nat) (h : Good T.length L) (k : Nat) : k ∈ patL T P L ↔ ∃ a ∈ L, a ≤ k ∧ k ≤ T.length ∧ lang false P (piece T a k) = true := by
  induction P generalizing L with
  | nil =>
    show k ∈ L ↔ _
    constructor
    · intro hk; exact ⟨k, hk, Nat.le_refl _, h.2 k hk, by rw [piece_same, lang_nil]; rfl⟩
    · rintro ⟨a, ha, h1, h2, h3⟩
      rw [lang_nil, piece_empty T a k h1 h2, decide_eq_true_eq] at h3
      exact h3 ▸ ha
  | cons c P ih =>
    show k ∈ patL T P (stepL T c L) ↔ _
    rw [ih _ (step_good c h)]
    by_cases hc : c = 42
    · subst hc
      constructor
      · rintro ⟨b, hb, h1, h2, h3⟩
        have hb' : b ∈ onwardL T.length L := hb
        obtain ⟨a, ha, h4, h5⟩ := (onward_mem h b).1 hb'
        refine ⟨a, ha, by omega, h2, (lang_star_iff P _).2 ⟨b - a, ?_, ?_⟩⟩
        · rw [piece_length T a k (by omega) h2]; omega
        · rw [piece_drop T a b k h4]; exact h3
      · rintro ⟨a, ha, h1, h2, h3⟩
        obtain ⟨j, hj, h4⟩ := (lang_star_iff P _).1 h3
        rw [piece_length T a k h1 h2] at hj
        refine ⟨a + j, (onward_mem h _).2 ⟨a, ha, by omega, by omega⟩, by omega, h2, ?_⟩
        have := piece_drop T a (a + j) k (by omega)
        rw [show a + j - a = j by omega] at this
        rw [← this]; exact h4
    · have st : stepL T c L = behindL (fun x => decide (c = 63) || decide (x = c)) T L := by
        unfold stepL
        rw [if_neg hc]
        by_cases h6 : c = 63
        · rw [if_pos h6, decide_eq_true h6]; congr 1
        · rw [if_neg h6, decide_eq_false h6]; congr 1
      rw [st]
      constructor
      · rintro ⟨b, hb, h1, h2, h3⟩
        obtain ⟨a, ha, h4, h5, rfl⟩ := (behind_mem _ T L b).1 hb
        refine ⟨a, ha, by omega, h2, ?_⟩
        rw [piece_next T a k (by omega) h2, lang_one false hc, same_lit, h3, Bool.and_true]
        rw [Bool.or_eq_true, decide_eq_true_eq, decide_eq_true_eq] at h5 ⊢
        exact h5.imp id Eq.symm
      · rintro ⟨a, ha, h1, h2, h3⟩
        by_cases e : a = k
        · subst e
          rw [piece_same, lang_end, decide_eq_false hc] at h3
          cases h3
        · rw [piece_next T a k (by omega) h2, lang_one false hc, same_lit, Bool.and_eq_true] at h3
          refine ⟨a + 1, (behind_mem _ T L _).2 ⟨a, ha, by omega, ?_, rfl⟩, by omega, h2, h3.2⟩
          have := h3.1
          rw [Bool.or_eq_true, decide_eq_true_eq, decide_eq_true_eq] at this ⊢
          exact this.imp id Eq.symm

/-- Where one of several patterns can end. -/
def valsL (T : List Int) (Ps : List (List Int)) (L : List Nat) : List Nat := (List.range (T.length + 1)).filter fun k => Ps.any fun P => (patL T P L).contains k
theorem vals_mem (T : List Int) (Ps : List (List Int)) (L : List Nat) (k : Nat) : k ∈ valsL T Ps L ↔ k ≤ T.length ∧ ∃ P ∈ Ps, k ∈ patL T P L := by
  unfold valsL
  rw [List.mem_filter, List.mem_range, List.any_eq_true]
  constructor
  · rintro ⟨h1, P, h2, h3⟩; exact ⟨by omega, P, h2, List.contains_iff_mem.1 h3⟩
  · rintro ⟨h1, P, h2, h3⟩; exact ⟨by omega, P, h2, List.contains_iff_mem.2 h3⟩
theorem vals_good (T : List Int) (Ps : List (List Int)) (L : List Nat) : Good T.length (valsL T Ps L) :=
  ⟨List.Pairwise.filter _ List.pairwise_lt_range, fun k hk => ((vals_mem T Ps L k).1 hk).1⟩
theorem vals_nil (T : List Int) (Ps : List (List Int)) : valsL T Ps [] = [] := by
  refine List.eq_nil_iff_forall_not_mem.2 fun k hk => ?_
  obtain ⟨-, P, -, h⟩ := (vals_mem T Ps [] k).1 hk
  rw [pat_nil] at h
  cases h
theorem vals_len (T : List Int) (Ps : List (List Int)) (L : List Nat) : (valsL T Ps L).length ≤ T.length + 1 := by
  unfold valsL
  have := List.length_filter_le (fun k => Ps.any fun P => (patL T P L).contains k) (List.range (T.length + 1))
  rw [List.length_range] at this
  exact this

/-- So many characters of a kind. -/
def timesL (f : Int → Bool) (T : List Int) : Nat → List Nat → List Nat
  | 0, L => L
  | n + 1, L => timesL f T n (behindL f T L)
theorem times_snoc (f : Int → Bool) (T : List Int) : ∀ (n : Nat) (L : List Nat), timesL f T (n + 1) L = behindL f T (timesL f T n L)
  | 0, L => rfl
  | n + 1, L => times_snoc f T n (behindL f T L)
theorem times_good {T : List Int} (f : Int → Bool) : ∀ (n : Nat) {L : List Nat}, Good T.length L → Good T.length (timesL f T n L)
  | 0, _, h => h
  | n + 1, _, h => times_good f n (behind_good f h)
theorem times_nil (f : Int → Bool) (T : List Int) : ∀ n : Nat, timesL f T n [] = []
  | 0 => rfl
  | n + 1 => times_nil f T n
theorem times_mem (f : Int → Bool) (T : List Int) : ∀ (n : Nat) (L : List Nat) (k : Nat), k ∈ timesL f T n L ↔ ∃ a ∈ L, (n = 0 ∨ k ≤ T.length) ∧ k = a + n ∧ (piece T a k).all f = true
  | 0, L, k => by
    show k ∈ L ↔ _
    constructor
    · intro h; exact ⟨k, h, .inl rfl, rfl, by rw [piece_same]; rfl⟩
    · rintro ⟨a, h, -, rfl, -⟩; exact h
  | n + 1, L, k => by
    show k ∈ timesL f T n (behindL f T L) ↔ _
    rw [times_mem f T n]
    constructor
    · rintro ⟨b, hb, h1, h2, h3⟩
      obtain ⟨a, ha, h4, h5, rfl⟩ := (behind_mem f T L b).1 hb
      have hk : k ≤ T.length := by rcases h1 with h1 | h1 <;> omega
      refine ⟨a, ha, .inr hk, by omega, ?_⟩
      rw [piece_next T a k (by omega) hk, List.all_cons, h5, h3]
      rfl
    · rintro ⟨a, ha, h1, h2, h3⟩
      have hk : k ≤ T.length := by rcases h1 with h1 | h1 <;> omega
      rw [piece_next T a k (by omega) hk, List.all_cons, Bool.and_eq_true] at h3
      exact ⟨a + 1, (behind_mem f T L _).2 ⟨a, ha, by omega, h3.1, rfl⟩, .inr hk, by omega, h3.2⟩

/-- What a part stands for. -/
inductive Pc where
  | pat (P : List Int)
  | vals (Ps : List (List Int))
  | cls (f : Int → Bool) (size : Nat)
def Pc.step (T : List Int) : Pc → List Nat → List Nat
  | .pat P, L => patL T P L
  | .vals Ps, L => valsL T Ps L
  | .cls f n, L => timesL f T n L
/-- The texts that it stands for. -/
def Pc.has : Pc → List Int → Prop
  | .pat P, t => lang false P t = true
  | .vals Ps, t => ∃ P ∈ Ps, lang false P t = true
  | .cls f n, t => t.length = n ∧ t.all f = true
theorem Pc.good {T : List Int} (p : Pc) {L : List Nat} (h : Good T.length L) : Good T.length (p.step T L) := by
  cases p with
  | pat P => exact pat_good P h
  | vals Ps => exact vals_good T Ps L
  | cls f n => exact times_good f n h
theorem Pc.nil (T : List Int) (p : Pc) : p.step T [] = [] := by
  cases p with
  | pat P => exact pat_nil T P
  | vals Ps => exact vals_nil T Ps
  | cls f n => exact times_nil f T n
theorem Pc.mem {T : List Int} (p : Pc) {L : List Nat} (h : Good T.length L) (k : Nat) : k ∈ p.step T L ↔ ∃ a ∈ L, a ≤ k ∧ k ≤ T.length ∧ p.has (piece T a k) := by
  cases p with
  | pat P => exact pat_mem T P L h k
  | vals Ps =>
    show k ∈ valsL T Ps L ↔ _
    rw [vals_mem]
    constructor
    · rintro ⟨h1, P, h2, h3⟩
      obtain ⟨a, ha, h4, h5, h6⟩ := (pat_mem T P L h k).1 h3
      exact ⟨a, ha, h4, h5, P, h2, h6⟩
    · rintro ⟨a, ha, h4, h5, P, h2, h6⟩
      exact ⟨h5, P, h2, (pat_mem T P L h k).2 ⟨a, ha, h4, h5, h6⟩⟩
  | cls f n =>
    show k ∈ timesL f T n L ↔ _
    rw [times_mem]
    constructor
    · rintro ⟨a, ha, h1, h2, h3⟩
      have hk : k ≤ T.length := by
        rcases h1 with rfl | h1
        · have := h.2 a ha; omega
        · exact h1
      exact ⟨a, ha, by omega, hk, by rw [piece_length T a k (by omega) hk]; omega, h3⟩
    · rintro ⟨a, ha, h1, h2, h3, h4⟩
      rw [piece_length T a k h1 h2] at h3
      exact ⟨a, ha, .inr h2, by omega, h4⟩
/-- All parts, one behind the other. -/
def endsL (T : List Int) (ps : List Pc) (L : List Nat) : List Nat := ps.foldl (fun L p => p.step T L) L
theorem ends_nil (T : List Int) : ∀ ps : List Pc, endsL T ps [] = []
  | [] => rfl
  | p :: ps => by show endsL T ps (p.step T []) = []; rw [p.nil, ends_nil T ps]
theorem ends_good {T : List Int} : ∀ (ps : List Pc) {L : List Nat}, Good T.length L → Good T.length (endsL T ps L)
  | [], _, h => h
  | p :: ps, _, h => ends_good ps (p.good h)
/-- Can a text be cut in pieces, one for each part? -/
def cutsTo (T : List Int) : List Pc → Nat → Prop
  | [], a => a = T.length
  | p :: ps, a => ∃ b, a ≤ b ∧ b ≤ T.length ∧ p.has (piece T a b) ∧ cutsTo T ps b
theorem ends_mem {T : List Int} : ∀ (ps : List Pc) {L : List Nat}, Good T.length L → (T.length ∈ endsL T ps L ↔ ∃ a ∈ L, cutsTo T ps a)
  | [], L, h => by
    show T.length ∈ L ↔ _
    constructor
    · intro hk; exact ⟨_, hk, rfl⟩
    · rintro ⟨a, ha, e⟩; exact e ▸ ha
  | p :: ps, L, h => by
    show T.length ∈ endsL T ps (p.step T L) ↔ _
    rw [ends_mem ps (p.good h)]
    constructor
    · rintro ⟨b, hb, hc⟩
      obtain ⟨a, ha, h1, h2, h3⟩ := (p.mem h b).1 hb
      exact ⟨a, ha, b, h1, h2, h3, hc⟩
    · rintro ⟨a, ha, b, h1, h2, h3, hc⟩
      exact ⟨b, (p.mem h b).2 ⟨a, ha, h1, h2, h3⟩, hc⟩
end Go.Proofs.YtoilalffhmjhdaaGreatDoor.subst
