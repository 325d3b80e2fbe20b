/- utf.Text: the bytes of characters in memory of its own, or a fault at the first number that is none. -/
import Derived.Test.YtoilalffhmjhdaaGreatDoorValid
import Derived.Test.YtoilalffhmjhdaaGreatDoorUtfMath
import Derived.Test.YtoilalffhmjhdaaGreatDoorHalf
import Derived.Laws.AppendOwn
import Derived.Lib.RuneBytes
import Derived.Deep.LoopGhost
set_option linter.unusedSimpArgs false
set_option linter.unusedVariables false
namespace Go.Proofs.YtoilalffhmjhdaaGreatDoor.text
open Go.RowKit Go.Proofs.YtoilalffhmjhdaaGreatDoor.errs Go.Proofs.YtoilalffhmjhdaaGreatDoor.utf Go.Proofs.YtoilalffhmjhdaaGreatDoor.umath Go.Proofs.YtoilalffhmjhdaaGreatDoor.half

/-- Numbers as cells. -/
def cellsOf (l : List Int) : List Value := l.map (Value.int .u8)
theorem cellsOf_append (a b : List Int) : cellsOf (a ++ b) = cellsOf a ++ cellsOf b := by simp [cellsOf]
theorem cellsOf_length (a : List Int) : (cellsOf a).length = a.length := by simp [cellsOf]
theorem rune_put (n : Int) (h : right n = true) : Lib.runeCells n = cellsOf (put n) := by
  obtain ⟨h0, h1, h2⟩ := (right_iff n).1 h
  unfold Lib.runeCells cellsOf put
  by_cases c1 : n < 128
  · rw [Lib.encodeRuneZ_one h0 (by omega), if_pos c1]
  rw [if_neg c1]
  by_cases c2 : n < 2048
  · rw [Lib.encodeRuneZ_two (by omega) (by omega), if_pos c2]
  rw [if_neg c2]
  by_cases c3 : n < 65536
  · rw [Lib.encodeRuneZ_three (by omega), if_pos c3]
  · rw [Lib.encodeRuneZ_four (by omega) (by omega), if_neg c3]
theorem put_length (n : Int) : 1 ≤ (put n).length ∧ (put n).length ≤ 4 := by
  unfold put
  repeat' split
  all_goals simp

/-- A slice that holds numbers. -/
def Nums (w : World) (v : Value) (xs : List Int) : Prop :=
  ∃ a cap, v = .slice a xs.length cap ∧ xs.length ≤ cap ∧ cap ≤ 9223372036854775807 ∧ (0 < xs.length → ∃ b off, a = some ⟨b, off, none⟩ ∧ ∀ j, j < xs.length → w.cell? ⟨b, off + j, none⟩ = some (.int .i64 (xs.getD j 0)))
theorem Nums.below {w w' : World} {v : Value} {xs : List Int} (h : Nums w v xs) (hb : Below w.heap.size w w') : Nums w' v xs := by
  obtain ⟨a, cap, rfl, h1, h2, h3⟩ := h
  refine ⟨a, cap, rfl, h1, h2, fun h => ?_⟩
  obtain ⟨b, off, rfl, hB⟩ := h3 h
  exact ⟨b, off, rfl, fun j hj => by rw [hb.cell (lt_of_cell (hB j hj))]; exact hB j hj⟩

/-- The bytes of so many of the numbers. -/
def upto (xs : List Int) (k : Nat) : List Int := (xs.take k).flatMap put
theorem upto_succ (xs : List Int) (k : Nat) (h : k < xs.length) : upto xs (k + 1) = upto xs k ++ put (xs.getD k 0) := by
  unfold upto
  rw [List.take_succ_eq_append_getElem h, List.flatMap_append]
  simp [List.getD_eq_getElem?_getD, h]
theorem upto_length (xs : List Int) (k : Nat) : (upto xs k).length ≤ 4 * k := by
  induction k with
  | zero => simp [upto]
  | succ k ih =>
    by_cases h : k < xs.length
    · rw [upto_succ xs k h, List.length_append]
      have := (put_length (xs.getD k 0)).2
      omega
    · have : upto xs (k + 1) = upto xs k := by
        unfold upto
        rw [List.take_of_length_le (by omega), List.take_of_length_le (by omega)]
      rw [this]; omega

/-- The first place of a number that is no character. -/
def badAt (xs : List Int) : Option Nat := (List.range xs.length).find? fun i => !right (xs.getD i 0)
theorem badAt_some {xs : List Int} {k : Nat} (h : k < xs.length) (hb : right (xs.getD k 0) = false) (ha : ∀ j, j < k → right (xs.getD j 0) = true) : badAt xs = some k := by
  unfold badAt
  rw [List.find?_range_eq_some]
  refine ⟨by simp only [hb]; rfl, by simpa using h, fun j hj => by simp only [ha j hj]; rfl⟩
theorem badAt_none {xs : List Int} (ha : ∀ j, j < xs.length → right (xs.getD j 0) = true) : badAt xs = none := by
  unfold badAt
  rw [List.find?_eq_none]
  intro j hj
  simp only [List.mem_range] at hj
  simp only [ha j hj]
  decide

/-- What utf.Text answers. -/
def TextOut (xs : List Int) (o : Option Nat) (w : World) (e : Ending) (w' : World) : Prop :=
  match o with
  | none => ∃ v, e = .returned (.tuple #[v, .nilIface]) ∧ w'.ownsRow w.heap.size 5 1 v (upto xs xs.length).length (cellsOf (upto xs xs.length)) ∧ Below w.heap.size w w'
  | some i => Failed w e w' 16 i fun v => .tuple #[.slice none 0 0, v]

theorem owns_cast {w : World} {B e s : Nat} {v : Value} {n n' : Nat} {l l' : List Value} (h : w.ownsRow B e s v n l) (hn : n = n') (hl : l = l') : w.ownsRow B e s v n' l' := by subst hn; subst hl; exact h

end Go.Proofs.YtoilalffhmjhdaaGreatDoor.text
