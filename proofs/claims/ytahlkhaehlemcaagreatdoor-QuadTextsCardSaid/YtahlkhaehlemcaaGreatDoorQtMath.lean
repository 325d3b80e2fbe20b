/- Plain mathematics: an address's text is read as it, and its last label makes it an address. -/
import Derived.Test.YtahlkhaehlemcaaGreatDoorQdNumeric
import Derived.Test.YtahlkhaehlemcaaGreatDoorRqParse
import Derived.Lib.ItoaNum
import Derived.Lib.Join
set_option linter.unusedSimpArgs false
set_option linter.unusedVariables false
namespace Go.Proofs.YtahlkhaehlemcaaGreatDoor.qtext
open Go.RowKit Go.Proofs.YtahlkhaehlemcaaGreatDoor.errs Go.Proofs.YtahlkhaehlemcaaGreatDoor.qmath Go.Proofs.YtahlkhaehlemcaaGreatDoor.qread Go.Proofs.YtahlkhaehlemcaaGreatDoor.qfields Go.Proofs.YtahlkhaehlemcaaGreatDoor.qlaid Go.Proofs.YtahlkhaehlemcaaGreatDoor.qparse Go.Proofs.YtahlkhaehlemcaaGreatDoor.rq

/-- A byte's decimal digits. -/
def d3 (n : Nat) : List UInt8 :=
  if n < 10 then [UInt8.ofNat (48 + n)] else if n < 100 then [UInt8.ofNat (48 + n / 10), UInt8.ofNat (48 + n % 10)] else [UInt8.ofNat (48 + n / 100), UInt8.ofNat (48 + n / 10 % 10), UInt8.ofNat (48 + n % 10)]
theorem dec_d3 {n : Nat} (h : n < 256) : Lib.decDigits n = d3 n := by
  unfold d3
  by_cases h1 : n < 10
  · rw [if_pos h1]; exact Lib.decDigits_one h1
  · rw [if_neg h1]
    by_cases h2 : n < 100
    · rw [if_pos h2]; exact Lib.decDigits_two h1 h2
    · rw [if_neg h2, Lib.decDigits, dif_neg h1, Lib.decDigits_two (by omega) (by omega), Nat.div_div_eq_div_mul]
      rfl
def part (n : Nat) : ByteArray := ⟨(d3 n).toArray⟩
def partOk (n : Nat) : Bool := (match readPart (part n) with | .num m => m == n | .bad _ _ => false) && (decide (0 < (d3 n).length) && (decide ((d3 n).length ≤ 3) && ((d3 n).all (fun c => c != 46) && (!hexed (part n) && allIn (part n) decs))))
set_option maxRecDepth 100000 in
theorem parts_ok : (List.range 256).all partOk = true := by kernel_rfl
theorem part_ok {n : Nat} (h : n < 256) : partOk n = true := List.all_eq_true.1 parts_ok n (List.mem_range.2 h)
theorem part_facts {n : Nat} (h : n < 256) : readPart (part n) = .num n ∧ 0 < (d3 n).length ∧ (d3 n).length ≤ 3 ∧ (∀ c ∈ d3 n, c ≠ 46) ∧ hexed (part n) = false ∧ allIn (part n) decs = true := by
  have := part_ok h
  unfold partOk at this
  simp only [Bool.and_eq_true, decide_eq_true_eq, List.all_eq_true, bne_iff_ne, Bool.not_eq_true'] at this
  obtain ⟨h1, h2, h3, h4, h5, h6⟩ := this
  refine ⟨?_, h2, h3, h4, h5, h6⟩
  cases hr : readPart (part n) with
  | bad k a => rw [hr] at h1; cases h1
  | num m => rw [hr] at h1; rw [of_decide_eq_true h1]
theorem part_list (n : Nat) : (part n).data.toList = d3 n := rfl
theorem part_size (n : Nat) : (part n).size = (d3 n).length := by show (d3 n).toArray.size = _; simp

def textList (a b c d : Nat) : List UInt8 := d3 a ++ 46 :: (d3 b ++ 46 :: (d3 c ++ 46 :: d3 d))
/-- An address's text. -/
def textOf (a b c d : Nat) : ByteArray := ⟨(textList a b c d).toArray⟩
theorem text_list (a b c d : Nat) : (textOf a b c d).data.toList = textList a b c d := rfl
theorem text_size (a b c d : Nat) : (textOf a b c d).size = (textList a b c d).length := by show (textList a b c d).toArray.size = _; simp
theorem text_join (a b c d : Nat) : Lib.join [d3 a, d3 b, d3 c, d3 d] [46] = textList a b c d := by
  rw [Lib.join_cons]
  simp [Lib.joinTail, textList]

theorem get_list {s : ByteArray} {i : Nat} {c : UInt8} (h : s.data.toList[i]? = some c) : s.get! i = c := by
  have hi : i < s.size := by
    have := (List.getElem?_eq_some_iff.1 h).1
    rwa [Array.length_toList] at this
  have e := rq.byte_at hi
  rw [h] at e
  exact (Option.some.inj e).symm
theorem cut_run {s : ByteArray} {g f : Nat} {acc : List ByteArray} : ∀ k i, (∀ j, i ≤ j → j < i + k → ¬ s.get! j = 46) → cutFrom s (k + g) i f acc = cutFrom s g (i + k) f acc
  | 0, i, _ => by rw [Nat.zero_add, Nat.add_zero]
  | k + 1, i, h => by
    rw [show k + 1 + g = (k + g) + 1 by omega, cut_on (h i (Nat.le_refl _) (by omega)), cut_run k (i + 1) (fun j h1 h2 => h j (by omega) (by omega)), show i + 1 + k = i + (k + 1) by omega]
theorem run_free {s : ByteArray} {pre t r : List UInt8} (hs : s.data.toList = pre ++ (t ++ r)) (ht : ∀ c ∈ t, c ≠ 46) (j : Nat) (h1 : pre.length ≤ j) (h2 : j < pre.length + t.length) : ¬ s.get! j = 46 := by
  have hk : j - pre.length < t.length := by omega
  have e : s.data.toList[j]? = t[j - pre.length]? := by
    rw [hs, List.getElem?_append_right h1, List.getElem?_append_left hk]
  rw [List.getElem?_eq_getElem hk] at e
  rw [get_list e]
  exact ht _ (List.getElem_mem hk)
theorem part_at {s : ByteArray} {pre t r : List UInt8} (hs : s.data.toList = pre ++ (t ++ r)) : s.extract pre.length (pre.length + t.length) = ⟨t.toArray⟩ := by
  apply list_ext
  rw [extract_list2, hs, List.drop_left, show pre.length + t.length - pre.length = t.length by omega, List.take_left]
theorem cut_next {s : ByteArray} {pre t r : List UInt8} {acc : List ByteArray} (hs : s.data.toList = pre ++ (t ++ 46 :: r)) (ht : ∀ c ∈ t, c ≠ 46) (ha : acc.length < 3) :
    cutFrom s (t.length + (r.length + 1)) pre.length pre.length acc = cutFrom s r.length (pre ++ (t ++ [46])).length (pre ++ (t ++ [46])).length (acc ++ [⟨t.toArray⟩]) := by
  rw [cut_run t.length pre.length (run_free hs ht)]
  have hp : s.get! (pre.length + t.length) = 46 := get_list (by
    rw [hs, List.getElem?_append_right (by omega), List.getElem?_append_right (by omega), show pre.length + t.length - pre.length - t.length = 0 by omega]
    rfl)
  rw [cut_part hp (by omega), part_at hs]
  simp [Nat.add_assoc]
theorem cut_last {s : ByteArray} {pre t : List UInt8} {acc : List ByteArray} (hs : s.data.toList = pre ++ (t ++ [])) (ht : ∀ c ∈ t, c ≠ 46) :
    cutFrom s t.length pre.length pre.length acc = .parts (acc ++ [⟨t.toArray⟩]) := by
  have h := cut_run (s := s) (g := 0) (f := pre.length) (acc := acc) t.length pre.length (run_free hs ht)
  rw [Nat.add_zero] at h
  have hz : s.size = pre.length + t.length := by
    show s.data.size = _
    rw [← Array.length_toList, hs]
    simp
  rw [h, cut_end, hz, part_at hs]

theorem cut_text {a b c d : Nat} (ha : a < 256) (hb : b < 256) (hc : c < 256) (hd : d < 256) : cut (textOf a b c d) = .parts [part a, part b, part c, part d] := by
  unfold cut
  have e0 : (textOf a b c d).data.toList = [] ++ (d3 a ++ 46 :: (d3 b ++ 46 :: (d3 c ++ 46 :: d3 d))) := rfl
  have z0 : (textOf a b c d).size = (d3 a).length + ((d3 b ++ 46 :: (d3 c ++ 46 :: d3 d)).length + 1) := by rw [text_size]; unfold textList; rw [List.length_append, List.length_cons]
  have h0 := cut_next (acc := []) e0 (part_facts ha).2.2.2.1 (by decide)
  have e1 : (textOf a b c d).data.toList = ([] ++ (d3 a ++ [46])) ++ (d3 b ++ 46 :: (d3 c ++ 46 :: d3 d)) := by rw [e0]; simp
  have z1 : (d3 b ++ 46 :: (d3 c ++ 46 :: d3 d)).length = (d3 b).length + ((d3 c ++ 46 :: d3 d).length + 1) := by rw [List.length_append, List.length_cons]
  have h1 := cut_next (acc := [] ++ [part a]) e1 (part_facts hb).2.2.2.1 (by simp)
  have e2 : (textOf a b c d).data.toList = (([] ++ (d3 a ++ [46])) ++ (d3 b ++ [46])) ++ (d3 c ++ 46 :: d3 d) := by rw [e0]; simp
  have z2 : (d3 c ++ 46 :: d3 d).length = (d3 c).length + ((d3 d).length + 1) := by rw [List.length_append, List.length_cons]
  have h2 := cut_next (acc := [] ++ [part a] ++ [part b]) e2 (part_facts hc).2.2.2.1 (by simp)
  have e3 : (textOf a b c d).data.toList = ((([] ++ (d3 a ++ [46])) ++ (d3 b ++ [46])) ++ (d3 c ++ [46])) ++ (d3 d ++ []) := by rw [e0]; simp
  have h3 := cut_last (acc := [] ++ [part a] ++ [part b] ++ [part c]) e3 (part_facts hd).2.2.2.1
  rw [z0]
  refine h0.trans ?_
  rw [z1]
  refine h1.trans ?_
  rw [z2]
  exact h2.trans h3

theorem last_no {d : Nat} (hd : d < 256) : ∃ l x, d3 d = l ++ [x] ∧ x ≠ 46 := by
  obtain ⟨-, h1, -, h2, -⟩ := part_facts hd
  rcases List.eq_nil_or_concat (d3 d) with h | ⟨l, x, h⟩
  · rw [h] at h1; cases h1
  · exact ⟨l, x, by rw [h, List.concat_eq_append], h2 x (by rw [h, List.concat_eq_append]; simp)⟩
theorem unended_text (a b c : Nat) {d : Nat} (hd : d < 256) : unended (textOf a b c d) = textOf a b c d := by
  obtain ⟨l, x, hl, hx⟩ := last_no hd
  unfold unended
  split
  · have : Lib.trimSuffix (textOf a b c d).data.toList [46] = (textOf a b c d).data.toList := by
      unfold Lib.trimSuffix Lib.hasSuffix
      rw [if_neg]
      intro e
      obtain ⟨q, hq⟩ := List.isSuffixOf_iff_suffix.1 e
      have h2 := congrArg List.getLast? hq
      rw [text_list] at h2
      have e : textList a b c d = (d3 a ++ 46 :: (d3 b ++ 46 :: (d3 c ++ 46 :: l))) ++ [x] := by unfold textList; rw [hl]; simp
      rw [e, List.getLast?_concat, List.getLast?_concat] at h2
      exact hx (Option.some.inj h2).symm
    rw [this]
  · rfl
theorem parse_text {a b c d : Nat} (ha : a < 256) (hb : b < 256) (hc : c < 256) (hd : d < 256) : parseOf (textOf a b c d) = .good a b c d := by
  unfold parseOf
  rw [unended_text a b c hd, cut_text ha hb hc hd]
  have ra := (part_facts ha).1
  have rb := (part_facts hb).1
  have rc := (part_facts hc).1
  have rd := (part_facts hd).1
  show outOf [part a, part b, part c, part d] (badFrom [part a, part b, part c, part d] 4 0) = _
  rw [bad_on (l := [part a, part b, part c, part d]) (g := 3) (j := 0) (n := a) ra, bad_on (l := [part a, part b, part c, part d]) (g := 2) (j := 0 + 1) (n := b) rb, bad_on (l := [part a, part b, part c, part d]) (g := 1) (j := 0 + 1 + 1) (n := c) rc, bad_on (l := [part a, part b, part c, part d]) (g := 0) (j := 0 + 1 + 1 + 1) (n := d) rd]
  show laidOf (partsOf [part a, part b, part c, part d]) 3 = _
  have p0 : (partsOf [part a, part b, part c, part d] 0).2 = a := numOf_num ra
  have p1 : (partsOf [part a, part b, part c, part d] 1).2 = b := numOf_num rb
  have p2 : (partsOf [part a, part b, part c, part d] 2).2 = c := numOf_num rc
  have p3 : (partsOf [part a, part b, part c, part d] 3).2 = d := numOf_num rd
  generalize partsOf [part a, part b, part c, part d] = f at *
  rw [laid_good (f := f) (k := 3) (fun x hx => by
    match x, hx with
    | 0, _ => omega
    | 1, _ => omega
    | 2, _ => omega) (by rw [p3]; simp; omega)]
  unfold pick
  simp only [show (0 : Nat) < 3 by decide, show (1 : Nat) < 3 by decide, show (2 : Nat) < 3 by decide, show ¬ (3 : Nat) < 3 by decide, if_true, if_false, p0, p1, p2, p3]
  rw [show d / 256 ^ (3 - 3) % 256 = d by simp; omega]

theorem lastFrom_run {t : ByteArray} {p : Nat} : ∀ k, (∀ j, p + 1 ≤ j → j < p + 1 + k → ¬ t.get! j = 46) → t.get! p = 46 → lastFrom t (p + 1 + k) = p + 1
  | 0, _, hp => by
    show (if t.get! p = 46 then p + 1 else lastFrom t p) = _
    rw [if_pos hp]
  | k + 1, h, hp => by
    show (if t.get! (p + 1 + k) = 46 then p + 1 + k + 1 else lastFrom t (p + 1 + k)) = _
    rw [if_neg (h _ (by omega) (by omega))]
    exact lastFrom_run k (fun j h1 h2 => h j h1 (by omega)) hp
theorem last_text (a b c : Nat) {d : Nat} (hd : d < 256) : lastOf (textOf a b c d) = part d := by
  unfold lastOf
  rw [unended_text a b c hd]
  have e : (textOf a b c d).data.toList = (d3 a ++ 46 :: (d3 b ++ 46 :: d3 c) ++ [46]) ++ (d3 d ++ []) := by rw [text_list]; unfold textList; simp
  have e' : (textOf a b c d).data.toList = (d3 a ++ 46 :: (d3 b ++ 46 :: d3 c)) ++ ([46] ++ d3 d) := by rw [text_list]; unfold textList; simp
  obtain ⟨p, hp⟩ : ∃ p, (d3 a ++ 46 :: (d3 b ++ 46 :: d3 c)) = p := ⟨_, rfl⟩
  rw [hp] at e e'
  have hl : (p ++ [46]).length = p.length + 1 := by simp
  have h46 : (textOf a b c d).get! p.length = 46 := get_list (by rw [e', List.getElem?_append_right (Nat.le_refl _)]; simp)
  have hz : (textOf a b c d).size = p.length + 1 + (d3 d).length := by
    show (textOf a b c d).data.size = _
    rw [← Array.length_toList, e']
    simp
    omega
  have hr := lastFrom_run (p := p.length) (d3 d).length (fun j h1 h2 => run_free e (part_facts hd).2.2.2.1 j (by omega) (by omega)) h46
  rw [hz, hr, ← hl, part_at e]
  rfl
theorem numeric_text (a b c : Nat) {d : Nat} (hd : d < 256) : numericOf (textOf a b c d) = true := by
  obtain ⟨-, h1, -, -, h2, h3⟩ := part_facts hd
  unfold numericOf
  rw [last_text a b c hd, h2, h3, decide_eq_true (by rw [part_size]; exact h1)]
  rfl
theorem text_short {a b c d : Nat} (ha : a < 256) (hb : b < 256) (hc : c < 256) (hd : d < 256) : (textOf a b c d).size ≤ 15 := by
  have h1 := (part_facts ha).2.2.1
  have h2 := (part_facts hb).2.2.1
  have h3 := (part_facts hc).2.2.1
  have h4 := (part_facts hd).2.2.1
  rw [text_size]
  unfold textList
  simp only [List.length_append, List.length_cons]
  omega

/-- What was read are bytes. -/
theorem over_small {f : Nat → Nat × Nat} : ∀ (g j : Nat), over f g j = none → ∀ x, j ≤ x → x < j + g → (f x).2 ≤ 255
  | 0, j, _, x, h1, h2 => by omega
  | g + 1, j, h, x, h1, h2 => by
    by_cases hj : 255 < (f j).2
    · rw [over_hit hj] at h; cases h
    · rw [over_on hj] at h
      by_cases e : x = j
      · subst e; omega
      · exact over_small g (j + 1) h x (by omega) (by omega)
theorem pick_small {f : Nat → Nat × Nat} {k : Nat} (h : over f k 0 = none) (i : Nat) : pick f k i < 256 := by
  unfold pick
  split
  · have := over_small k 0 h i (Nat.zero_le _) (by omega)
    omega
  · exact Nat.mod_lt _ (by decide)
theorem parse_small {s : ByteArray} {a b c d : Nat} (h : parseOf s = .good a b c d) : a < 256 ∧ b < 256 ∧ c < 256 ∧ d < 256 := by
  unfold parseOf at h
  cases hc : cut (unended s) with
  | many x => rw [hc] at h; cases h
  | parts l =>
    rw [hc] at h
    have h : outOf l (badFrom l l.length 0) = .good a b c d := h
    cases hb : badFrom l l.length 0 with
    | some x => rw [hb] at h; cases h
    | none =>
      rw [hb] at h
      have h : laidOf (partsOf l) (l.length - 1) = .good a b c d := h
      unfold laidOf at h
      cases ho : over (partsOf l) (l.length - 1) 0 with
      | some x => rw [ho] at h; cases h
      | none =>
        rw [ho] at h
        have h : (if 256 ^ (4 - (l.length - 1)) ≤ (partsOf l (l.length - 1)).2 then Out.bad 16 (partsOf l (l.length - 1)).1 else .good (pick (partsOf l) (l.length - 1) 0) (pick (partsOf l) (l.length - 1) 1) (pick (partsOf l) (l.length - 1) 2) (pick (partsOf l) (l.length - 1) 3)) = .good a b c d := h
        split at h
        · cases h
        · simp only [Out.good.injEq] at h
          obtain ⟨rfl, rfl, rfl, rfl⟩ := h
          exact ⟨pick_small ho _, pick_small ho _, pick_small ho _, pick_small ho _⟩
end Go.Proofs.YtahlkhaehlemcaaGreatDoor.qtext
