/- Plain mathematics of layer 15: which texts parts stand for; the row of truths that is carried along a text. -/
import Derived.Lib.Hide
set_option linter.unusedSimpArgs false
set_option linter.unusedVariables false
namespace Go.Proofs.YtjijdaheabgphaaDoor.gparts

/-- A part: what it stands for, whether for any character, whether for any number of such. -/
structure Pt where
  char : Int
  free : Bool
  many : Bool

def Pt.takes (p : Pt) (x : Int) : Bool := p.free || decide (p.char = x)

/-- Do parts stand for a text? -/
def lg : List Pt → List Int → Bool
  | [], t => t.isEmpty
  | p :: ps, [] => p.many && lg ps []
  | p :: ps, x :: r => if p.many then lg ps (x :: r) || (p.takes x && lg (p :: ps) r) else p.takes x && lg ps r
termination_by ps t => (ps.length, t.length)
theorem lg_nil (t : List Int) : lg [] t = t.isEmpty := by unfold lg; rfl
theorem lg_end (p : Pt) (ps : List Pt) : lg (p :: ps) [] = (p.many && lg ps []) := by rw [lg]
theorem lg_cons (p : Pt) (ps : List Pt) (x : Int) (r : List Int) : lg (p :: ps) (x :: r) = if p.many then lg ps (x :: r) || (p.takes x && lg (p :: ps) r) else p.takes x && lg ps r := by rw [lg]
theorem lg_many {p : Pt} (hp : p.many = true) (ps : List Pt) (x : Int) (r : List Int) : lg (p :: ps) (x :: r) = (lg ps (x :: r) || (p.takes x && lg (p :: ps) r)) := by rw [lg_cons, if_pos hp]
theorem lg_one {p : Pt} (hp : p.many = false) (ps : List Pt) (x : Int) (r : List Int) : lg (p :: ps) (x :: r) = (p.takes x && lg ps r) := by rw [lg_cons, if_neg (by rw [hp]; decide)]
theorem lg_skip {p : Pt} (hp : p.many = true) (ps : List Pt) (t : List Int) (h : lg ps t = true) : lg (p :: ps) t = true := by
  cases t with
  | nil => rw [lg_end, hp, h]; rfl
  | cons x r => rw [lg_many hp, h]; rfl

/-- Parts one behind the other stand for texts one behind the other. -/
theorem lg_append (ps qs : List Pt) (t : List Int) : lg (ps ++ qs) t = true ↔ ∃ u v, t = u ++ v ∧ lg ps u = true ∧ lg qs v = true := by
  induction ps generalizing t with
  | nil =>
    constructor
    · intro h; exact ⟨[], t, rfl, by rw [lg_nil]; rfl, h⟩
    · rintro ⟨u, v, rfl, h1, h2⟩
      rw [lg_nil] at h1
      have : u = [] := List.isEmpty_iff.1 h1
      subst this
      exact h2
  | cons p ps ih =>
    cases hp : p.many with
    | true =>
      induction t with
      | nil =>
        rw [List.cons_append, lg_end, hp, Bool.true_and, ih]
        constructor
        · rintro ⟨u, v, e, h1, h2⟩; exact ⟨u, v, e, lg_skip hp _ _ h1, h2⟩
        · rintro ⟨u, v, e, h1, h2⟩
          have eu : u = [] := (List.append_eq_nil_iff.1 e.symm).1
          subst eu
          rw [lg_end, hp, Bool.true_and] at h1
          exact ⟨[], v, e, h1, h2⟩
      | cons x r iht =>
        rw [List.cons_append, lg_many hp, Bool.or_eq_true, Bool.and_eq_true, ih]
        constructor
        · rintro (⟨u, v, e, h1, h2⟩ | ⟨hx, h⟩)
          · exact ⟨u, v, e, lg_skip hp _ _ h1, h2⟩
          · obtain ⟨u, v, e, h1, h2⟩ := iht.1 h
            exact ⟨x :: u, v, by rw [e]; rfl, by rw [lg_many hp, hx, h1]; simp, h2⟩
        · rintro ⟨u, v, e, h1, h2⟩
          cases u with
          | nil =>
            rw [lg_end, hp, Bool.true_and] at h1
            exact .inl ⟨[], v, e, h1, h2⟩
          | cons y u =>
            obtain ⟨rfl, er⟩ : x = y ∧ r = u ++ v := by simpa using e
            rw [lg_many hp, Bool.or_eq_true, Bool.and_eq_true] at h1
            rcases h1 with h1 | ⟨hx, h1⟩
            · exact .inl ⟨x :: u, v, e, h1, h2⟩
            · exact .inr ⟨hx, iht.2 ⟨u, v, er, h1, h2⟩⟩
    | false =>
      cases t with
      | nil =>
        rw [List.cons_append, lg_end, hp]
        constructor
        · intro h; simp at h
        · rintro ⟨u, v, e, h1, h2⟩
          have eu : u = [] := (List.append_eq_nil_iff.1 e.symm).1
          subst eu
          rw [lg_end, hp] at h1
          simp at h1
      | cons x r =>
        rw [List.cons_append, lg_one hp, Bool.and_eq_true, ih]
        constructor
        · rintro ⟨hx, u, v, e, h1, h2⟩
          exact ⟨x :: u, v, by rw [e]; rfl, by rw [lg_one hp, hx, h1]; rfl, h2⟩
        · rintro ⟨u, v, e, h1, h2⟩
          cases u with
          | nil => rw [lg_end, hp] at h1; simp at h1
          | cons y u =>
            obtain ⟨rfl, er⟩ : x = y ∧ r = u ++ v := by simpa using e
            rw [lg_one hp, Bool.and_eq_true] at h1
            exact ⟨h1.1, u, v, er, h1.2, h2⟩

theorem lg_empty (ps : List Pt) (q : Pt) : lg (ps ++ [q]) [] = (q.many && lg ps []) := by
  rw [Bool.eq_iff_iff, lg_append, Bool.and_eq_true]
  constructor
  · rintro ⟨u, v, e, h1, h2⟩
    obtain ⟨rfl, rfl⟩ := List.append_eq_nil_iff.1 e.symm
    rw [lg_end, lg_nil] at h2
    exact ⟨by simpa using h2, h1⟩
  · rintro ⟨h1, h2⟩
    exact ⟨[], [], rfl, h2, by rw [lg_end, lg_nil, h1]; rfl⟩

theorem single_many {q : Pt} (hq : q.many = true) (v : List Int) : lg [q] v = v.all q.takes := by
  induction v with
  | nil => rw [lg_end, lg_nil, hq]; rfl
  | cons x r ih => rw [lg_many hq, lg_nil, ih]; rfl
theorem single_one {q : Pt} (hq : q.many = false) (v : List Int) : lg [q] v = true ↔ ∃ x, v = [x] ∧ q.takes x = true := by
  cases v with
  | nil => rw [lg_end, hq]; simp
  | cons x r =>
    rw [lg_one hq, lg_nil, Bool.and_eq_true, List.isEmpty_iff]
    constructor
    · rintro ⟨h, rfl⟩; exact ⟨x, rfl, h⟩
    · rintro ⟨y, e, h⟩
      obtain ⟨rfl, rfl⟩ : x = y ∧ r = [] := by simpa using e
      exact ⟨h, rfl⟩

/-- One part more, one character more. -/
def stepP (q : Pt) (c : Int) (before now here : Bool) : Bool := if q.many then now || (here && q.takes c) else before && q.takes c
theorem lg_snoc (ps : List Pt) (q : Pt) (t : List Int) (c : Int) : lg (ps ++ [q]) (t ++ [c]) = stepP q c (lg ps t) (lg ps (t ++ [c])) (lg (ps ++ [q]) t) := by
  unfold stepP
  cases hq : q.many with
  | true =>
    rw [if_pos rfl, Bool.eq_iff_iff, lg_append, Bool.or_eq_true, Bool.and_eq_true, lg_append]
    constructor
    · rintro ⟨u, v, e, h1, h2⟩
      rcases List.eq_nil_or_concat v with rfl | ⟨v, d, rfl⟩
      · rw [List.append_nil] at e
        exact .inl (e ▸ h1)
      · rw [List.concat_eq_append, ← List.append_assoc] at e
        have e1 := List.append_inj' e rfl
        obtain ⟨e1, e2⟩ := e1
        obtain rfl : c = d := by simpa using e2
        rw [single_many hq, List.concat_eq_append, List.all_append, Bool.and_eq_true] at h2
        exact .inr ⟨⟨u, v, e1, h1, by rw [single_many hq]; exact h2.1⟩, by simpa using h2.2⟩
    · rintro (h | ⟨⟨u, v, e, h1, h2⟩, h3⟩)
      · exact ⟨t ++ [c], [], by simp, h, by rw [single_many hq]; rfl⟩
      · refine ⟨u, v ++ [c], by rw [e]; simp, h1, ?_⟩
        rw [single_many hq] at h2 ⊢
        rw [List.all_append, h2]
        simpa using h3
  | false =>
    rw [if_neg (by decide), Bool.eq_iff_iff, lg_append, Bool.and_eq_true]
    constructor
    · rintro ⟨u, v, e, h1, h2⟩
      obtain ⟨x, rfl, hx⟩ := (single_one hq v).1 h2
      obtain ⟨e1, e2⟩ := List.append_inj' e rfl
      obtain rfl : c = x := by simpa using e2
      exact ⟨e1 ▸ h1, hx⟩
    · rintro ⟨h1, h2⟩
      exact ⟨t, [c], rfl, h1, (single_one hq [c]).2 ⟨c, rfl, h2⟩⟩

/-- The truths for each number of parts: can so many stand for the text? -/
def st (ps : List Pt) (t : List Int) (j : Nat) : Bool := lg (ps.take j) t
def at_ (ps : List Pt) (j : Nat) : Pt := ps.getD j ⟨0, false, false⟩
theorem take_snoc (ps : List Pt) (j : Nat) (h : j < ps.length) : ps.take (j + 1) = ps.take j ++ [at_ ps j] := by
  rw [List.take_succ_eq_append_getElem h]
  unfold at_
  rw [List.getD_eq_getElem?_getD, List.getElem?_eq_getElem h]
  rfl
theorem st_first (ps : List Pt) : st ps [] 0 = true := by unfold st; rw [List.take_zero, lg_nil]; rfl
theorem st_start (ps : List Pt) (j : Nat) (h : j < ps.length) : st ps [] (j + 1) = ((at_ ps j).many && st ps [] j) := by unfold st; rw [take_snoc ps j h, lg_empty]
theorem st_zero (ps : List Pt) (t : List Int) (c : Int) : st ps (t ++ [c]) 0 = false := by unfold st; rw [List.take_zero, lg_nil]; simp
theorem st_step (ps : List Pt) (t : List Int) (c : Int) (j : Nat) (h : j < ps.length) : st ps (t ++ [c]) (j + 1) = stepP (at_ ps j) c (st ps t j) (st ps (t ++ [c]) j) (st ps t (j + 1)) := by unfold st; rw [take_snoc ps j h, lg_snoc]
theorem st_last (ps : List Pt) (t : List Int) : st ps t ps.length = lg ps t := by unfold st; rw [List.take_length]

/-- Where no number of parts serves, none serves further on. -/
theorem st_dead_step (ps : List Pt) (t : List Int) (c : Int) (h : ∀ j, j ≤ ps.length → st ps t j = false) : ∀ j, j ≤ ps.length → st ps (t ++ [c]) j = false
  | 0, _ => st_zero ps t c
  | j + 1, hj => by
    rw [st_step ps t c j (by omega), h j (by omega), h (j + 1) hj, st_dead_step ps t c h j (by omega)]
    unfold stepP
    simp
theorem st_dead (ps : List Pt) : ∀ (u t : List Int), (∀ j, j ≤ ps.length → st ps t j = false) → lg ps (t ++ u) = false
  | [], t, h => by rw [List.append_nil, ← st_last]; exact h _ (Nat.le_refl _)
  | c :: u, t, h => by
    have := st_dead ps u (t ++ [c]) (st_dead_step ps t c h)
    rwa [List.append_assoc, List.singleton_append] at this
end Go.Proofs.YtjijdaheabgphaaDoor.gparts
