/- Plain mathematics: a text with a mark ahead of each of three signs is the pattern with points and stars of that text alone. -/
import Derived.Test.YtjijdaheabgphaaDoorGpLeads
set_option linter.unusedSimpArgs false
set_option linter.unusedVariables false
namespace Go.Proofs.YtjijdaheabgphaaDoor.gparts
open Go.RowKit Go.Proofs.YtjijdaheabgphaaDoor.errs Go.Proofs.YtjijdaheabgphaaDoor.rows Go.Proofs.YtjijdaheabgphaaDoor.utf Go.Proofs.YtjijdaheabgphaaDoor.chars Go.Proofs.YtjijdaheabgphaaDoor.gmath Go.Proofs.YtjijdaheabgphaaDoor.glref Go.Proofs.YtjijdaheabgphaaDoor.lower Go.Proofs.YtjijdaheabgphaaDoor.ref Go.Proofs.YtjijdaheabgphaaDoor.umath Go.Proofs.YtjijdaheabgphaaDoor.text

def isMark (n : Nat) : Bool := decide (n = 46 ∨ n = 42 ∨ n = 92)
def qb (c : UInt8) : List UInt8 := if isMark c.toNat then [92, c] else [c]
def quoteL (l : List UInt8) : List UInt8 := l.flatMap qb
/-- The pattern with points and stars of one text. -/
def quoteOf (s : ByteArray) : ByteArray := ⟨(quoteL s.data.toList).toArray⟩
theorem quoteL_snoc (l : List UInt8) (c : UInt8) : quoteL (l ++ [c]) = quoteL l ++ qb c := by simp [quoteL]
theorem qb_length (c : UInt8) : (qb c).length ≤ 2 := by unfold qb; split <;> simp
theorem quoteL_length : ∀ l : List UInt8, (quoteL l).length ≤ 2 * l.length
  | [] => by simp [quoteL]
  | c :: l => by
    have h1 := quoteL_length l
    have h2 := qb_length c
    unfold quoteL at h1 ⊢
    rw [List.flatMap_cons, List.length_append, List.length_cons]
    omega
theorem quote_size (s : ByteArray) : (quoteOf s).size ≤ 2 * s.size := by
  have := quoteL_length s.data.toList
  show (quoteL s.data.toList).toArray.size ≤ 2 * s.data.size
  rw [List.size_toArray]
  rwa [Array.length_toList] at this

/-- A text's bytes as numbers. -/
def bl (s : ByteArray) : List Int := s.data.toList.map fun b => (b.toNat : Int)
theorem bl_length (s : ByteArray) : (bl s).length = s.size := by unfold bl; rw [List.length_map, Array.length_toList]; rfl
theorem bl_get (s : ByteArray) (j : Nat) : bt s j = (bl s).getD j 0 := by
  unfold bt bl
  rw [List.getD_eq_getElem?_getD, List.getElem?_map, Array.getElem?_toList]
  show (((s.data[j]!).toNat : Nat) : Int) = _
  by_cases h : j < s.data.size
  · rw [getElem!_pos s.data j h, Array.getElem?_eq_getElem h]; rfl
  · rw [getElem!_neg s.data j h, Array.getElem?_eq_none (by omega)]; rfl
theorem holds_bl (s : ByteArray) (l : List Int) (h : bl s = l) : Holds s 0 l := by
  subst h
  exact ⟨by rw [bl_length]; omega, fun j _ => by rw [Nat.zero_add]; exact bl_get s j⟩
theorem bl_holds (s : ByteArray) (l : List Int) (h : Holds s 0 l) (hz : l.length = s.size) : bl s = l := by
  refine List.ext_getElem (by rw [bl_length, hz]) fun j h1 h2 => ?_
  have := h.2 j h2
  rw [Nat.zero_add, bl_get, List.getD_eq_getElem?_getD, List.getElem?_eq_getElem h1, List.getD_eq_getElem?_getD, List.getElem?_eq_getElem h2] at this
  exact this
def qbI (n : Int) : List Int := if n = 46 ∨ n = 42 ∨ n = 92 then [92, n] else [n]
theorem qb_cast (c : UInt8) : (qb c).map (fun b => (b.toNat : Int)) = qbI c.toNat := by
  unfold qb qbI isMark
  by_cases h : c.toNat = 46 ∨ c.toNat = 42 ∨ c.toNat = 92
  · rw [if_pos (decide_eq_true h), if_pos (by omega)]; rfl
  · rw [if_neg (by rw [decide_eq_false h]; decide), if_neg (by omega)]; rfl
theorem bl_quote (s : ByteArray) : bl (quoteOf s) = (bl s).flatMap qbI := by
  unfold bl quoteOf quoteL
  rw [List.flatMap_map]
  show ((s.data.toList.flatMap qb).toArray.toList).map _ = _
  rw [List.toList_toArray, List.map_flatMap]
  congr 1
  funext c
  exact qb_cast c
/-- A character's bytes with marks are the bytes of the character with marks. -/
theorem put_quote (c : Int) (hr : right c = true) : (put c).flatMap qbI = (qbI c).flatMap put := by
  obtain ⟨h0, h1, h2⟩ := (right_iff c).1 hr
  by_cases h : c < 128
  · have e : put c = [c] := by unfold put; rw [if_pos h]
    rw [e, List.flatMap_singleton]
    unfold qbI
    split
    · have e92 : put 92 = [92] := by decide
      rw [List.flatMap_cons, List.flatMap_singleton, e, e92]; rfl
    · rw [List.flatMap_singleton, e]
  · have e : qbI c = [c] := by unfold qbI; rw [if_neg (by omega)]
    rw [e, List.flatMap_singleton]
    have hall : ∀ x ∈ put c, qbI x = [x] := by
      intro x hx
      unfold qbI
      rw [if_neg]
      unfold put at hx
      rw [if_neg h] at hx
      repeat' split at hx
      all_goals simp at hx
      all_goals omega
    generalize put c = l at hall
    induction l with
    | nil => rfl
    | cons x l ih =>
      rw [List.flatMap_cons, hall x (List.mem_cons_self ..), ih (fun y hy => hall y (List.mem_cons_of_mem _ hy))]
      rfl
theorem right92 : right 92 = true := by decide
theorem quote_right (s : ByteArray) (hs : firstBad s = none) : firstBad (quoteOf s) = none ∧ all (quoteOf s) = (all s).flatMap qbI := by
  obtain ⟨r1, r2, r3⟩ := unput s s.size 0 (by omega) (by omega) hs
  rw [Nat.zero_add] at r3
  have hb := bl_holds s _ r2 r3
  have e : bl (quoteOf s) = ((all s).flatMap qbI).flatMap put := by
    rw [bl_quote, hb, List.flatMap_assoc, List.flatMap_assoc]
    show (all s).flatMap _ = (all s).flatMap _
    have : ∀ l : List Int, (∀ x ∈ l, right x = true) → l.flatMap (fun x => (put x).flatMap qbI) = l.flatMap (fun x => (qbI x).flatMap put) := by
      intro l hl
      induction l with
      | nil => rfl
      | cons x l ih => rw [List.flatMap_cons, List.flatMap_cons, put_quote x (hl x (List.mem_cons_self ..)), ih (fun y hy => hl y (List.mem_cons_of_mem _ hy))]
    exact this _ r1
  have hh := holds_bl (quoteOf s) _ e
  have hlen : (((all s).flatMap qbI).flatMap put).length = (quoteOf s).size := by rw [← e, bl_length]
  have hr : ∀ x ∈ (all s).flatMap qbI, right x = true := by
    intro x hx
    obtain ⟨c, hc, hx⟩ := List.mem_flatMap.1 hx
    unfold qbI at hx
    split at hx
    · simp at hx
      rcases hx with rfl | rfl
      · exact right92
      · exact r1 _ hc
    · simp at hx
      subst hx
      exact r1 _ hc
  have hn : ((all s).flatMap qbI).length ≤ (quoteOf s).size := by
    rw [← hlen]
    generalize (all s).flatMap qbI = l
    induction l with
    | nil => simp
    | cons x l ih =>
      rw [List.flatMap_cons, List.length_append, List.length_cons]
      have := (put_length x).1
      omega
  obtain ⟨p1, p2⟩ := reads_before (quoteOf s) ((all s).flatMap qbI) (quoteOf s).size 0 hr hh hn
  rw [hlen, Nat.zero_add] at p1 p2
  constructor
  · unfold firstBad
    rw [p1]
    exact scan_end _ _ _ (Nat.le_refl _)
  · unfold all at p2 ⊢
    rw [p2, from_end _ _ _ (Nat.le_refl _), List.append_nil]

/-- Parts read from characters, where nothing is wrong. -/
def prL : List Int → List Pt → Bool → Option (List Pt)
  | [], acc, esc => if esc then none else some acc
  | c :: r, acc, esc => if c = 42 ∧ esc = false then (if acc.length = 0 ∨ lastMany acc = true then none else prL r (manyLast acc) false)
    else if c = 92 ∧ esc = false then prL r acc true
    else prL r (acc ++ [⟨c, decide (c = 46) && !esc, false⟩]) false
theorem prs_prL (s : ByteArray) : ∀ (g i : Nat) (acc : List Pt) (esc : Bool) (ps : List Pt), s.size ≤ i + g → prL (from_ s g i) acc esc = some ps → prs s g i acc esc = ((0, 0), ps)
  | 0, i, acc, esc, ps, hg, h => by
    unfold from_ prL at h
    unfold prs
    cases esc with
    | true => rw [if_pos rfl] at h; cases h
    | false => rw [if_neg (by decide)] at h ⊢; rw [Option.some.inj h]
  | g + 1, i, acc, esc, ps, hg, h => by
    obtain ⟨-, b2, -⟩ := decode_bounds s i
    by_cases hi : i < s.size
    · rw [from_step s g i hi] at h
      unfold prL at h
      unfold prs
      rw [if_pos hi]
      by_cases h1 : ((Utf8.decode s i).1 : Int) = 42 ∧ esc = false
      · rw [if_pos h1] at h ⊢
        by_cases h2 : acc.length = 0 ∨ lastMany acc = true
        · rw [if_pos h2] at h; cases h
        · rw [if_neg h2] at h ⊢
          exact prs_prL s g _ _ _ ps (by omega) h
      · rw [if_neg h1] at h ⊢
        by_cases h2 : ((Utf8.decode s i).1 : Int) = 92 ∧ esc = false
        · rw [if_pos h2] at h ⊢
          exact prs_prL s g _ _ _ ps (by omega) h
        · rw [if_neg h2] at h ⊢
          exact prs_prL s g _ _ _ ps (by omega) h
    · rw [from_end s _ i (by omega)] at h
      unfold prL at h
      rw [prs_end s _ i acc esc hi]
      cases esc with
      | true => rw [if_pos rfl] at h; cases h
      | false => rw [if_neg (by decide)] at h ⊢; rw [Option.some.inj h]
/-- A character for itself. -/
def lit (c : Int) : Pt := ⟨c, false, false⟩
theorem prL_quote : ∀ (l : List Int) (acc : List Pt), prL (l.flatMap qbI) acc false = some (acc ++ l.map lit)
  | [], acc => by
    show prL [] acc false = _
    unfold prL
    rw [if_neg (by decide)]
    simp
  | c :: l, acc => by
    rw [List.flatMap_cons, List.map_cons]
    have ih := prL_quote l (acc ++ [lit c])
    rw [List.append_assoc, List.singleton_append] at ih
    unfold qbI
    by_cases h : c = 46 ∨ c = 42 ∨ c = 92
    · rw [if_pos h, List.cons_append, List.cons_append, List.nil_append]
      rw [prL, if_neg (by decide), if_pos ⟨rfl, rfl⟩, prL, if_neg (fun q => by cases q.2), if_neg (fun q => by cases q.2)]
      rw [Bool.not_true, Bool.and_false]
      exact ih
    · rw [if_neg h, List.cons_append, List.nil_append]
      rw [prL, if_neg (fun q => h (.inr (.inl q.1))), if_neg (fun q => h (.inr (.inr q.1))), decide_eq_false (fun q => h (.inl q)), Bool.false_and]
      exact ih
theorem lg_lit : ∀ (P T : List Int), lg (P.map lit) T = decide (T = P)
  | [], T => by
    show lg [] T = _
    rw [lg_nil]
    cases T <;> rfl
  | c :: P, [] => by
    show lg (lit c :: P.map lit) [] = _
    rw [lg_end]
    rfl
  | c :: P, x :: r => by
    show lg (lit c :: P.map lit) (x :: r) = _
    rw [lg_one rfl, lg_lit P r]
    show ((false || decide (c = x)) && decide (r = P)) = _
    rw [Bool.false_or]
    by_cases h1 : c = x
    · subst h1
      by_cases h2 : r = P
      · subst h2; simp
      · rw [decide_eq_false h2, decide_eq_false (fun e => h2 (List.cons.inj e).2)]; simp
    · rw [decide_eq_false h1, decide_eq_false (fun e => h1 (List.cons.inj e).1.symm)]; rfl

theorem all_inj (s t : ByteArray) (hs : firstBad s = none) (ht : firstBad t = none) (h : all s = all t) : s = t := by
  obtain ⟨h1, h2⟩ := bytes_lead t s ht hs [] (by rw [List.append_nil]; exact h)
  obtain ⟨h3, -⟩ := bytes_lead s t hs ht [] (by rw [List.append_nil]; exact h.symm)
  have e : t.size = s.size := by omega
  rw [e, ByteArray.extract_zero_size] at h2
  exact h2
theorem simple_quote (s t : ByteArray) (hz : s.size ≤ 500) (hs : firstBad s = none) : simpleOf (quoteOf s) t = decide (t = s) := by
  obtain ⟨q1, q2⟩ := quote_right s hs
  have hq := quote_size s
  have hp : prsOf (quoteOf s) = ((0, 0), (all s).map lit) := by
    unfold prsOf
    refine prs_prL _ _ _ _ _ _ (by omega) ?_
    have : from_ (quoteOf s) (quoteOf s).size 0 = all (quoteOf s) := rfl
    rw [this, q2, prL_quote]
    rfl
  have hc : (checkOf (quoteOf s)).1 = 0 := by
    have := check_small (quoteOf s) (by omega)
    rw [q1] at this
    exact of_decide_eq_true this
  unfold simpleOf checkSOf
  rw [if_pos hc, hp, lg_lit]
  cases ht : firstBad t with
  | some i =>
    have : ¬ t = s := fun e => by rw [e, hs] at ht; cases ht
    rw [decide_eq_false this]
    simp
  | none =>
    by_cases e : t = s
    · subst e; simp
    · have : ¬ all t = all s := fun h => e (all_inj t s ht hs h)
      rw [decide_eq_false this, decide_eq_false e]
      simp
theorem simple_wrong (p s : ByteArray) (h : firstBad s ≠ none) : simpleOf p s = false := by
  unfold simpleOf
  cases hs : firstBad s with
  | none => exact absurd hs h
  | some i => simp
end Go.Proofs.YtjijdaheabgphaaDoor.gparts
