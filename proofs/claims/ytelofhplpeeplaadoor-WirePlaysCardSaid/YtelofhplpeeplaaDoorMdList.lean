/- A kind's text, as a list of bytes: its type, its subtype, its parameters. -/
import Derived.Test.YtelofhplpeeplaaDoorMdRow
import Derived.Test.YtelofhplpeeplaaDoorMdQt
set_option linter.unusedSimpArgs false
set_option linter.unusedVariables false
namespace Go.Proofs.YtelofhplpeeplaaDoor.media
open Go.RowKit Go.Proofs.YtelofhplpeeplaaDoor.errs

/-- The text of bytes. -/
def T (l : List UInt8) : ByteArray := ⟨l.toArray⟩
theorem T_list (l : List UInt8) : (T l).data.toList = l := rfl
theorem T_size (l : List UInt8) : (T l).size = l.length := rfl
theorem T_of (s : ByteArray) : T s.data.toList = s := by unfold T; rw [Array.toArray_toList]
theorem T_cut (l : List UInt8) (a b : Nat) : (T l).extract a b = T ((l.drop a).take (b - a)) := by
  apply ByteArray.ext
  apply Array.toList_inj.1
  rw [cut_list]; rfl
theorem cut_T (s : ByteArray) (a b : Nat) : s.extract a b = T ((s.data.toList.drop a).take (b - a)) := by
  apply ByteArray.ext
  apply Array.toList_inj.1
  rw [cut_list]; rfl

def okN (n : Nat) : Bool := decide (1 ≤ n ∧ n ≤ 100)
theorem okN_yes {n : Nat} (h : 1 ≤ n ∧ n ≤ 100) : okN n = true := decide_eq_true h
theorem okN_no {n : Nat} (h : ¬ (1 ≤ n ∧ n ≤ 100)) : okN n = false := decide_eq_false h
/-- The token at the beginning, and what is behind it. -/
def tokC (l : List UInt8) : Option (List UInt8 × List UInt8) := if okN (spanN inTok l) then some (l.take (spanN inTok l), l.drop (spanN inTok l)) else none
/-- What is behind a byte that must stand there. -/
def must (c : UInt8) : List UInt8 → Option (List UInt8)
  | [] => none
  | d :: r => if d = c then some r else none
theorem must_cons (c d : UInt8) (l : List UInt8) : must c (d :: l) = if d = c then some l else none := rfl
/-- A parameter's value, and what is behind it. -/
def valC (l : List UInt8) : Option (List UInt8 × List UInt8) := match must 34 l with | some r => unq [] r | none => tokC l
/-- A parameter, and what is behind it. -/
def parC (l : List UInt8) : Option (It × List UInt8) :=
  match must 59 l with
  | none => none
  | some r => match tokC (skip r) with
    | none => none
    | some (n, r1) => match must 61 r1 with
      | none => none
      | some r2 => match valC r2 with
        | none => none
        | some (v, r3) => some (⟨lowS (T n), T v, true⟩, r3)
/-- Parameters, up to the end, from behind blanks on. -/
def parsC : Nat → List UInt8 → Option (List It)
  | 0, l => if l.isEmpty then some [] else none
  | g + 1, l => if l.isEmpty then some [] else match parC l with
    | none => none
    | some (x, r) => match parsC g (skip r) with
      | none => none
      | some xs => some (x :: xs)
/-- The type, the subtype, and what is behind them. -/
def headC (l : List UInt8) : Option ((ByteArray × ByteArray) × List UInt8) :=
  match tokC (skip l) with
  | none => none
  | some (t, r) => match must 47 r with
    | none => none
    | some r1 => match tokC r1 with
      | none => none
      | some (u, r2) => some ((lowS (T t), lowS (T u)), r2)
def readC (l : List UInt8) : Option ((ByteArray × ByteArray) × List It) :=
  match headC l with
  | none => none
  | some (x, r) => match parsC l.length (skip r) with
    | none => none
    | some ps => some (x, ps)
/-- Have two parameters one name? -/
def Twin (ps : List It) : Prop := ∃ i k, k < i ∧ i < ps.length ∧ (itAt ps k).name = (itAt ps i).name
noncomputable def twin (ps : List It) : Bool := @decide (Twin ps) (Classical.propDecidable _)
theorem twin_yes {ps : List It} (h : Twin ps) : twin ps = true := @decide_eq_true _ (Classical.propDecidable _) h
theorem twin_no {ps : List It} (h : ¬ Twin ps) : twin ps = false := @decide_eq_false _ (Classical.propDecidable _) h
/-- What a text is read as. -/
inductive Med
  | bad (k a : Nat)
  | good (t u : ByteArray) (ps : List It)
noncomputable def mediaOf (s : ByteArray) : Med :=
  if 1000 < s.size then .bad 14 1000 else match readC s.data.toList with
    | none => .bad 11 0
    | some ((t, u), ps) => if 8 < ps.length then .bad 15 0 else if twin ps then .bad 31 0 else .good t u ps

theorem skip_le (l : List UInt8) : (skip l).length ≤ l.length := by
  unfold skip
  rw [drop_span, List.length_drop]; omega
theorem tokC_lt {l n r : List UInt8} (h : tokC l = some (n, r)) : r.length < l.length ∧ n.length + r.length = l.length ∧ n = l.take (spanN inTok l) ∧ r = l.drop (spanN inTok l) ∧ okN (spanN inTok l) = true := by
  unfold tokC at h
  by_cases hk : okN (spanN inTok l) = true
  · rw [if_pos hk] at h
    obtain ⟨rfl, rfl⟩ := Prod.mk.inj (Option.some.inj h)
    have h1 := of_decide_eq_true hk
    have h2 := spanN_le inTok l
    rw [List.length_drop, List.length_take]
    exact ⟨by omega, by omega, rfl, rfl, hk⟩
  · rw [if_neg hk] at h; cases h
theorem must_some {c : UInt8} {l r : List UInt8} (h : must c l = some r) : l = c :: r := by
  cases l with
  | nil => cases h
  | cons d l =>
    rw [must_cons] at h
    by_cases e : d = c
    · rw [if_pos e] at h; rw [e, Option.some.inj h]
    · rw [if_neg e] at h; cases h
theorem valC_le {l v r : List UInt8} (h : valC l = some (v, r)) : r.length ≤ l.length := by
  unfold valC at h
  cases hm : must 34 l with
  | some r' =>
    rw [hm] at h
    have := unq_le l.length r' [] v r (by rw [must_some hm, List.length_cons]; omega) h
    rw [must_some hm, List.length_cons]; omega
  | none =>
    rw [hm] at h
    have := (tokC_lt h).1; omega
theorem parC_lt {l r : List UInt8} {x : It} (h : parC l = some (x, r)) : r.length < l.length := by
  unfold parC at h
  cases h1 : must 59 l with
  | none => rw [h1] at h; cases h
  | some r0 =>
    rw [h1] at h
    simp only at h
    cases h2 : tokC (skip r0) with
    | none => rw [h2] at h; cases h
    | some nr =>
      obtain ⟨n, r1⟩ := nr
      rw [h2] at h
      simp only at h
      cases h3 : must 61 r1 with
      | none => rw [h3] at h; cases h
      | some r2 =>
        rw [h3] at h
        simp only at h
        cases h4 : valC r2 with
        | none => rw [h4] at h; cases h
        | some vr =>
          obtain ⟨v, r3⟩ := vr
          rw [h4] at h
          obtain ⟨-, rfl⟩ := Prod.mk.inj (Option.some.inj h)
          have a1 := valC_le h4
          have a2 := (tokC_lt h2).1
          have a3 := skip_le r0
          rw [must_some h3, List.length_cons] at a2
          rw [must_some h1, List.length_cons]; omega

theorem must_drop {s : ByteArray} {i : Nat} (c : UInt8) : must c (s.data.toList.drop i) = if i < s.size ∧ s.get! i = c then some (s.data.toList.drop (i + 1)) else none := by
  by_cases h : i < s.size
  · rw [bytes_drop h, must_cons]
    by_cases e : s.get! i = c
    · rw [if_pos e, if_pos ⟨h, e⟩]
    · rw [if_neg e, if_neg (fun q => e q.2)]
  · rw [bytes_end (by omega), if_neg (fun q => h q.1)]; rfl
theorem skip_drop (s : ByteArray) (i : Nat) : skip (s.data.toList.drop i) = s.data.toList.drop (i + spanN isBl (s.data.toList.drop i)) := by
  unfold skip
  rw [drop_span, List.drop_drop]
theorem valOf_C (s : ByteArray) (b : Nat) (hb : b ≤ s.size) : valOf s b = match valC (s.data.toList.drop b) with | none => none | some (v, r) => some (T v, s.size - r.length) := by
  unfold valOf valC
  rw [must_drop]
  by_cases h : b < s.size ∧ s.get! b = 34
  · rw [if_pos h, if_pos h]
    simp only
    cases unq [] (s.data.toList.drop (b + 1)) with
    | none => rfl
    | some x => rfl
  · rw [if_neg h, if_neg h]
    simp only
    unfold tokC okN
    have hl := span_in s inTok b hb
    by_cases hn : 1 ≤ spanN inTok (s.data.toList.drop b) ∧ spanN inTok (s.data.toList.drop b) ≤ 100
    · rw [if_pos hn, if_pos (decide_eq_true hn)]
      simp only
      rw [cut_T, Nat.add_sub_cancel_left, List.drop_drop, List.length_drop, Array.length_toList]
      congr 2
      have e : s.data.size = s.size := rfl
      omega
    · rw [if_neg hn, if_neg (by rw [decide_eq_false hn]; decide)]
theorem drop_len (s : ByteArray) (k : Nat) (h : k ≤ s.size) : s.size - (s.data.toList.drop k).length = k := by
  rw [List.length_drop, Array.length_toList]
  have e : s.data.size = s.size := rfl
  omega
theorem unq_tail : ∀ (g : Nat) (l acc v r : List UInt8), l.length ≤ g → unq acc l = some (v, r) → ∃ k, r = l.drop k
  | g, [], acc, v, r, _, h => by unfold unq at h; cases h
  | 0, c :: l, acc, v, r, hg, h => by rw [List.length_cons] at hg; omega
  | g + 1, c :: l, acc, v, r, hg, h => by
    rw [List.length_cons] at hg
    unfold unq at h
    by_cases e1 : c = 34
    · rw [if_pos e1] at h
      obtain ⟨-, rfl⟩ := Prod.mk.inj (Option.some.inj h)
      exact ⟨1, rfl⟩
    · rw [if_neg e1] at h
      by_cases e2 : c = 92
      · rw [if_pos e2] at h
        cases l with
        | nil => cases h
        | cons d l' =>
          rw [List.length_cons] at hg
          obtain ⟨k, e⟩ := unq_tail g l' _ v r (by omega) h
          exact ⟨k + 2, by rw [e]; rfl⟩
      · rw [if_neg e2] at h
        obtain ⟨k, e⟩ := unq_tail g l _ v r (by omega) h
        exact ⟨k + 1, by rw [e]; rfl⟩
theorem valC_tail {l v r : List UInt8} (h : valC l = some (v, r)) : ∃ k, r = l.drop k := by
  unfold valC at h
  cases hm : must 34 l with
  | some r' =>
    rw [hm] at h
    obtain ⟨k, e⟩ := unq_tail r'.length r' [] v r (Nat.le_refl _) h
    exact ⟨k + 1, by rw [e, must_some hm]; rfl⟩
  | none =>
    rw [hm] at h
    exact ⟨_, (tokC_lt h).2.2.2.1⟩
/-- The two ways to tell a parameter are one. -/
def It.pair (x : It) : ByteArray × ByteArray := (x.name, x.value)
theorem parOf_C (s : ByteArray) (i : Nat) (hi : i ≤ s.size) : parOf s i = match parC (s.data.toList.drop i) with | none => none | some (x, r) => some (x.pair, s.size - (skip r).length) := by
  unfold parOf parC
  rw [must_drop]
  by_cases h : i < s.size ∧ s.get! i = 59
  · rw [if_pos h, if_pos h]
    simp only
    have e1 : skip (s.data.toList.drop (i + 1)) = s.data.toList.drop (nameAt s i) := skip_drop s (i + 1)
    have hle : nameAt s i ≤ s.size := span_in s isBl (i + 1) (by omega)
    have hln : nameAt s i + nameN s i ≤ s.size := span_in s inTok _ hle
    have e2 : tokC (s.data.toList.drop (nameAt s i)) = if okN (nameN s i) then some ((s.data.toList.drop (nameAt s i)).take (nameN s i), s.data.toList.drop (nameAt s i + nameN s i)) else none := by
      unfold tokC nameN
      rw [List.drop_drop]
    rw [e1, e2]
    by_cases hn : 1 ≤ nameN s i ∧ nameN s i ≤ 100
    · rw [if_pos (okN_yes hn)]
      simp only
      rw [must_drop]
      by_cases hq : nameAt s i + nameN s i < s.size ∧ s.get! (nameAt s i + nameN s i) = 61
      · rw [if_pos ⟨hn, hq⟩, if_pos hq]
        simp only
        rw [valOf_C s _ (by omega)]
        cases hv : valC (s.data.toList.drop (nameAt s i + nameN s i + 1)) with
        | none => rfl
        | some vr =>
          obtain ⟨v, r⟩ := vr
          simp only
          obtain ⟨k, hk⟩ := valC_tail hv
          rw [List.drop_drop] at hk
          have hr : r = s.data.toList.drop (s.size - r.length) := by
            by_cases hkk : nameAt s i + nameN s i + 1 + k ≤ s.size
            · conv => rhs; rw [hk, drop_len s _ hkk]
              exact hk
            · have : r = [] := by rw [hk]; exact bytes_end (by omega)
              rw [this]
              exact (bytes_end (by rw [List.length_nil]; omega)).symm
          have e4 : s.size - (skip r).length = s.size - r.length + spanN isBl (s.data.toList.drop (s.size - r.length)) := by
            conv => lhs; rw [hr, skip_drop]
            rw [drop_len]
            exact span_in s isBl _ (Nat.sub_le _ _)
          rw [e4, cut_T, Nat.add_sub_cancel_left]
          rfl
      · rw [if_neg (fun q => hq q.2), if_neg hq]
    · rw [if_neg (fun q => hn q.1), if_neg (by rw [okN_no hn]; decide)]
  · rw [if_neg h, if_neg h]
end Go.Proofs.YtelofhplpeeplaaDoor.media
