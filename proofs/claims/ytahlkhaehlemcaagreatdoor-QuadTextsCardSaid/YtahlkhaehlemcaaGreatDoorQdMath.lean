/- Plain mathematics of layer 11: what a text of an address tells, over its bytes. -/
import Derived.Test.YtahlkhaehlemcaaGreatDoorFails
set_option linter.unusedSimpArgs false
set_option linter.unusedVariables false
namespace Go.Proofs.YtahlkhaehlemcaaGreatDoor.qmath

/-- The digits of base 16, those of 8 and 10 from the beginning on. -/
def hexes : List UInt8 := [48, 49, 50, 51, 52, 53, 54, 55, 56, 57, 97, 98, 99, 100, 101, 102, 65, 66, 67, 68, 69, 70]
def digs (b : Nat) : List UInt8 := if b = 16 then hexes else hexes.take b
def dval (c : UInt8) : Nat := if c.toNat ≤ 57 then c.toNat - 48 else if 97 ≤ c.toNat then c.toNat - 87 else c.toNat - 55

theorem all_bytes {p : UInt8 → Prop} (h : ∀ n : Fin 256, p (UInt8.ofNat n.1)) (c : UInt8) : p c := by
  have := h ⟨c.toNat, c.toNat_lt⟩
  rwa [UInt8.ofNat_toNat] at this

def isDig (b : Nat) (c : UInt8) : Bool := decide (48 ≤ c.toNat ∧ c.toNat ≤ 57 ∧ c.toNat < 48 + b) || (decide (b = 16) && (decide (97 ≤ c.toNat ∧ c.toNat ≤ 102) || decide (65 ≤ c.toNat ∧ c.toNat ≤ 70)))
set_option maxRecDepth 100000 in
theorem digs8 (c : UInt8) : (digs 8).contains c = isDig 8 c := by
  refine all_bytes (p := fun c => (digs 8).contains c = isDig 8 c) ?_ c
  decide
set_option maxRecDepth 100000 in
theorem digs10 (c : UInt8) : (digs 10).contains c = isDig 10 c := by
  refine all_bytes (p := fun c => (digs 10).contains c = isDig 10 c) ?_ c
  decide
set_option maxRecDepth 100000 in
theorem digs16 (c : UInt8) : (digs 16).contains c = isDig 16 c := by
  refine all_bytes (p := fun c => (digs 16).contains c = isDig 16 c) ?_ c
  decide
def IsBase (b : Nat) : Prop := b = 8 ∨ b = 10 ∨ b = 16
theorem digs_any {b : Nat} (hb : IsBase b) (c : UInt8) : (digs b).contains c = isDig b c := by
  rcases hb with rfl | rfl | rfl
  · exact digs8 c
  · exact digs10 c
  · exact digs16 c
theorem dval_digit {c : UInt8} (h0 : 48 ≤ c.toNat) (h1 : c.toNat ≤ 57) : dval c = c.toNat - 48 := by simp [dval, h1]
theorem dig_cases {b : Nat} {c : UInt8} (h : isDig b c = true) : (48 ≤ c.toNat ∧ c.toNat ≤ 57 ∧ c.toNat < 48 + b) ∨ (b = 16 ∧ ((97 ≤ c.toNat ∧ c.toNat ≤ 102) ∨ (65 ≤ c.toNat ∧ c.toNat ≤ 70))) := by
  simpa [isDig] using h
theorem dval_lt {b : Nat} {c : UInt8} (h : isDig b c = true) : dval c < b := by
  unfold dval
  rcases dig_cases h with h | ⟨rfl, h⟩
  · rw [if_pos h.2.1]; omega
  · rw [if_neg (by omega)]; split <;> omega

/-- The number of digits, if it is within 64 bits. -/
def num (b : Nat) : Nat → List UInt8 → Option Nat
  | acc, [] => some acc
  | acc, c :: r => if acc * b + dval c < 18446744073709551616 then num b (acc * b + dval c) r else none
theorem num_nil (b acc : Nat) : num b acc [] = some acc := rfl
theorem num_on {b acc : Nat} {c : UInt8} {r : List UInt8} (h : acc * b + dval c < 18446744073709551616) : num b acc (c :: r) = num b (acc * b + dval c) r := by simp [num, h]
theorem num_over {b acc : Nat} {c : UInt8} {r : List UInt8} (h : ¬ acc * b + dval c < 18446744073709551616) : num b acc (c :: r) = none := by simp [num, h]
theorem num_lt (b : Nat) : ∀ (l : List UInt8) (acc n : Nat), acc < 18446744073709551616 → num b acc l = some n → n < 18446744073709551616
  | [], acc, n, h, e => by simp [num] at e; omega
  | c :: r, acc, n, h, e => by
    by_cases hc : acc * b + dval c < 18446744073709551616
    · rw [num_on hc] at e; exact num_lt b r _ n hc e
    · rw [num_over hc] at e; cases e

/-- What the library's call answers of it. -/
def numAt (o : Option Nat) : Nat := o.getD 18446744073709551615
end Go.Proofs.YtahlkhaehlemcaaGreatDoor.qmath
