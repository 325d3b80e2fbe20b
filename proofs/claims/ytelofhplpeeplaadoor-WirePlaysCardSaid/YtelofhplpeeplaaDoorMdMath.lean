/- Plain mathematics of layer 17: tokens, blanks, texts between marks, as lists of bytes. -/
import Derived.Test.YtelofhplpeeplaaDoorGlMath
import Derived.Lib.Hide
set_option linter.unusedSimpArgs false
set_option linter.unusedVariables false
namespace Go.Proofs.YtelofhplpeeplaaDoor.media
open Go.Proofs.YtelofhplpeeplaaDoor.gmath

def signs : List UInt8 := [33, 35, 36, 37, 38, 39, 42, 43, 45, 46, 94, 95, 124, 126]
/-- Is a byte within tokens? -/
def inTok (c : UInt8) : Bool := decide (97 ≤ small c.toNat ∧ small c.toNat ≤ 122) || decide (48 ≤ c.toNat ∧ c.toNat ≤ 57) || decide (c.toNat = 96) || signs.contains c
def isTokL (l : List UInt8) : Bool := l.all inTok && (decide (1 ≤ l.length) && decide (l.length ≤ 100))
def isTok (s : ByteArray) : Bool := isTokL s.data.toList
def isBl (c : UInt8) : Bool := c == 32 || c == 9
/-- How many bytes at the beginning are of a kind. -/
def spanN (f : UInt8 → Bool) (l : List UInt8) : Nat := (l.takeWhile f).length
theorem spanN_nil (f : UInt8 → Bool) : spanN f [] = 0 := rfl
theorem spanN_yes {f : UInt8 → Bool} {c : UInt8} {l : List UInt8} (h : f c = true) : spanN f (c :: l) = spanN f l + 1 := by
  unfold spanN
  rw [List.takeWhile_cons, if_pos h, List.length_cons]
theorem spanN_no {f : UInt8 → Bool} {c : UInt8} {l : List UInt8} (h : f c = false) : spanN f (c :: l) = 0 := by
  unfold spanN
  rw [List.takeWhile_cons, if_neg (by rw [h]; decide)]
  rfl
theorem spanN_le (f : UInt8 → Bool) : ∀ l : List UInt8, spanN f l ≤ l.length
  | [] => Nat.le_refl _
  | c :: l => by
    cases h : f c with
    | true => rw [spanN_yes h, List.length_cons]; have := spanN_le f l; omega
    | false => rw [spanN_no h]; exact Nat.zero_le _
theorem span_all (f : UInt8 → Bool) : ∀ l : List UInt8, (l.take (spanN f l)).all f = true
  | [] => rfl
  | c :: l => by
    cases h : f c with
    | true => rw [spanN_yes h, List.take_succ_cons, List.all_cons, h, span_all f l]; rfl
    | false => rw [spanN_no h]; rfl
theorem bytes_drop {s : ByteArray} {i : Nat} (h : i < s.size) : s.data.toList.drop i = s.get! i :: s.data.toList.drop (i + 1) := by
  have h' : i < s.data.toList.length := by rw [Array.length_toList]; exact h
  rw [List.drop_eq_getElem_cons h']
  congr 1
  have h2 : i < s.data.size := h
  show s.data.toList[i] = s.data[i]!
  rw [getElem!_pos s.data i h2, Array.getElem_toList]
theorem bytes_end {s : ByteArray} {i : Nat} (h : s.size ≤ i) : s.data.toList.drop i = [] := List.drop_eq_nil_of_le (by rw [Array.length_toList]; exact h)
theorem cut_list (t : ByteArray) (a b : Nat) : (t.extract a b).data.toList = (t.data.toList.drop a).take (b - a) := by
  rw [ByteArray.data_extract, Array.toList_extract, List.extract_eq_take_drop]

/-- The place behind the token at a place; -1: there is none. -/
def tokAt (s : ByteArray) (i : Nat) : Int := let n := spanN inTok (s.data.toList.drop i); if 1 ≤ n ∧ n ≤ 100 then ((i + n : Nat) : Int) else -1
theorem span_in (s : ByteArray) (f : UInt8 → Bool) (i : Nat) (h : i ≤ s.size) : i + spanN f (s.data.toList.drop i) ≤ s.size := by
  have := spanN_le f (s.data.toList.drop i)
  rw [List.length_drop, Array.length_toList] at this
  have e : s.data.size = s.size := rfl
  omega
theorem tok_cut (s : ByteArray) (i : Nat) (h : i ≤ s.size) : isTok (s.extract i (i + spanN inTok (s.data.toList.drop i))) = decide (1 ≤ spanN inTok (s.data.toList.drop i) ∧ spanN inTok (s.data.toList.drop i) ≤ 100) := by
  have hl := spanN_le inTok (s.data.toList.drop i)
  unfold isTok isTokL
  rw [cut_list, Nat.add_sub_cancel_left, span_all, Bool.true_and, List.length_take, Nat.min_eq_left hl]
  generalize spanN inTok (s.data.toList.drop i) = n
  by_cases h1 : 1 ≤ n <;> by_cases h2 : n ≤ 100 <;> simp [h1, h2]

/-- What the text between marks stands for, behind the first mark, and what follows; none: there is none. -/
def unq : List UInt8 → List UInt8 → Option (List UInt8 × List UInt8)
  | _, [] => none
  | acc, c :: r => if c = 34 then some (acc, r) else if c = 92 then (match r with | [] => none | d :: r' => unq (acc ++ [d]) r') else unq (acc ++ [c]) r
def tokL (l : List UInt8) : Option (List UInt8 × List UInt8) := if isTokL (l.takeWhile inTok) then some (l.takeWhile inTok, l.dropWhile inTok) else none
def skip (l : List UInt8) : List UInt8 := l.dropWhile isBl
theorem drop_span (f : UInt8 → Bool) : ∀ l : List UInt8, l.dropWhile f = l.drop (spanN f l)
  | [] => rfl
  | c :: l => by
    cases h : f c with
    | true => rw [spanN_yes h, List.dropWhile_cons_of_pos h, List.drop_succ_cons, drop_span f l]
    | false => rw [spanN_no h, List.dropWhile_cons_of_neg (by rw [h]; decide), List.drop_zero]
end Go.Proofs.YtelofhplpeeplaaDoor.media
