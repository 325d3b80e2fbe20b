/- Plain mathematics: the bytes of characters, one behind the other, are read as the same characters. -/
import Derived.Test.YtoilalffhmjhdaaGreatDoorRefNext
import Derived.Test.YtoilalffhmjhdaaGreatDoorChars
import Derived.Test.YtoilalffhmjhdaaGreatDoorText
import Derived.Test.YtoilalffhmjhdaaGreatDoorFrame
set_option linter.unusedSimpArgs false
set_option linter.unusedVariables false
namespace Go.Proofs.YtoilalffhmjhdaaGreatDoor.ref
open Go.RowKit Go.Proofs.YtoilalffhmjhdaaGreatDoor.errs Go.Proofs.YtoilalffhmjhdaaGreatDoor.utf Go.Proofs.YtoilalffhmjhdaaGreatDoor.umath Go.Proofs.YtoilalffhmjhdaaGreatDoor.half Go.Proofs.YtoilalffhmjhdaaGreatDoor.chars Go.Proofs.YtoilalffhmjhdaaGreatDoor.text

/-- From a place on these numbers stand in the bytes. -/
def Holds (s : ByteArray) (i : Nat) (l : List Int) : Prop := i + l.length ≤ s.size ∧ ∀ j, j < l.length → bt s (i + j) = l.getD j 0
theorem Holds.left {s : ByteArray} {i : Nat} {a b : List Int} (h : Holds s i (a ++ b)) : Holds s i a := by
  obtain ⟨h1, h2⟩ := h
  simp only [List.length_append] at h1 h2
  refine ⟨by omega, fun j hj => ?_⟩
  rw [h2 j (by omega)]
  simp [List.getD_eq_getElem?_getD, List.getElem?_append_left hj]
theorem Holds.right {s : ByteArray} {i : Nat} {a b : List Int} (h : Holds s i (a ++ b)) : Holds s (i + a.length) b := by
  obtain ⟨h1, h2⟩ := h
  simp only [List.length_append] at h1 h2
  refine ⟨by omega, fun j hj => ?_⟩
  rw [show i + a.length + j = i + (a.length + j) by omega, h2 (a.length + j) (by omega)]
  simp [List.getD_eq_getElem?_getD, List.getElem?_append_right]

theorem hit_put (s : ByteArray) (i : Nat) (x : Int) (hr : right x = true) (h : Holds s i (put x)) :
    guessAt s i (put x).length = x ∧ rowAt s i (put x).length = put x ∧ ∀ k, 1 ≤ k → k < (put x).length → ¬ HitAt s i k := by
  obtain ⟨h0, h1, h2⟩ := (right_iff x).1 hr
  obtain ⟨hl, hb⟩ := h
  by_cases c1 : x < 128
  · have e : put x = [x] := by unfold put; rw [if_pos c1]
    rw [e] at hl hb ⊢
    have b0 := hb 0 (by simp)
    simp at b0
    refine ⟨?_, ?_, fun k h1 h2 => ?_⟩
    · simpa [guessAt, guess] using b0
    · simpa [rowAt, row] using b0
    · simp at h2; omega
  by_cases c2 : x < 2048
  · have e : put x = [192 + x / 64, 128 + x % 64] := by unfold put; rw [if_neg c1, if_pos c2]
    rw [e] at hl hb ⊢
    have b0 := hb 0 (by simp)
    have b1 := hb 1 (by simp)
    simp at b0 b1
    refine ⟨?_, ?_, fun k k1 k2 => ?_⟩
    · simp only [guessAt, guess, List.length_cons, List.length_nil, b0, b1]; omega
    · simp [rowAt, row, b0, b1]
    · simp at k2
      refine none_before (s.get! i).toNat (s.get! (i + 1)).toNat (s.get! (i + 2)).toNat (s.get! (i + 3)).toNat ?_ k k1 (.inl k2)
      have : bt s i = ((s.get! i).toNat : Int) := rfl
      omega
  by_cases c3 : x < 65536
  · have e : put x = [224 + x / 4096, 128 + x / 64 % 64, 128 + x % 64] := by unfold put; rw [if_neg c1, if_neg c2, if_pos c3]
    rw [e] at hl hb ⊢
    have b0 := hb 0 (by simp)
    have b1 := hb 1 (by simp)
    have b2 := hb 2 (by simp)
    simp at b0 b1 b2
    refine ⟨?_, ?_, fun k k1 k2 => ?_⟩
    · simp only [guessAt, guess, List.length_cons, List.length_nil, b0, b1, b2]; omega
    · simp [rowAt, row, b0, b1, b2]
    · simp at k2
      have : bt s i = ((s.get! i).toNat : Int) := rfl
      refine none_before (s.get! i).toNat (s.get! (i + 1)).toNat (s.get! (i + 2)).toNat (s.get! (i + 3)).toNat (by omega) k k1 (.inr (.inl ⟨k2, by omega⟩))
  · have e : put x = [240 + x / 262144, 128 + x / 4096 % 64, 128 + x / 64 % 64, 128 + x % 64] := by unfold put; rw [if_neg c1, if_neg c2, if_neg c3]
    rw [e] at hl hb ⊢
    have b0 := hb 0 (by simp)
    have b1 := hb 1 (by simp)
    have b2 := hb 2 (by simp)
    have b3 := hb 3 (by simp)
    simp at b0 b1 b2 b3
    refine ⟨?_, ?_, fun k k1 k2 => ?_⟩
    · simp only [guessAt, guess, List.length_cons, List.length_nil, b0, b1, b2, b3]; omega
    · simp [rowAt, row, b0, b1, b2, b3]
    · simp at k2
      have : bt s i = ((s.get! i).toNat : Int) := rfl
      refine none_before (s.get! i).toNat (s.get! (i + 1)).toNat (s.get! (i + 2)).toNat (s.get! (i + 3)).toNat (by omega) k k1 (.inr (.inr ⟨k2, by omega⟩))

/-- A character's bytes are read as it. -/
theorem decode_put (s : ByteArray) (i : Nat) (x : Int) (hr : right x = true) (h : Holds s i (put x)) :
    charAt s i = true ∧ ((Utf8.decode s i).1 : Int) = x ∧ (Utf8.decode s i).2 = (put x).length := by
  obtain ⟨e1, e2, e3⟩ := hit_put s i x hr h
  obtain ⟨l1, l2⟩ := put_length x
  have hh : HitAt s i (put x).length := ⟨by rw [e1]; exact hr, by rw [e1, e2]⟩
  obtain ⟨r1, r2⟩ := refN_hit s i (put x).length h.1 l1 l2 hh e3
  cases hc : charAt s i with
  | true =>
    have er : refN s i = Utf8.decode s i := by unfold refN; rw [if_pos hc]
    rw [er] at r1 r2
    exact ⟨rfl, by rw [r1, e1], r2⟩
  | false =>
    have er : refN s i = (0, 0) := by unfold refN; rw [if_neg (by rw [hc]; decide)]
    rw [er] at r2
    simp only at r2
    omega

/-- Characters' bytes up to the end are right, and are read as them. -/
theorem reads_put (s : ByteArray) : ∀ (xs : List Int) (g i : Nat), (∀ x ∈ xs, right x = true) → i + (xs.flatMap put).length = s.size → Holds s i (xs.flatMap put) → xs.length ≤ g → scan s g i = none ∧ from_ s g i = xs
  | [], g, i, _, h, _, _ => by
    simp at h
    exact ⟨scan_end s g i (by omega), from_end s g i (by omega)⟩
  | x :: xs, 0, i, _, _, _, hg => by simp at hg
  | x :: xs, g + 1, i, hr, h, hh, hg => by
    have hx := hr x (List.mem_cons_self ..)
    simp only [List.flatMap_cons, List.length_append] at h hh
    simp only [List.length_cons] at hg
    obtain ⟨l1, l2⟩ := put_length x
    obtain ⟨d1, d2, d3⟩ := decode_put s i x hx hh.left
    have r := reads_put s xs g (i + (put x).length) (fun y hy => hr y (List.mem_cons_of_mem _ hy)) (by omega) hh.right (by omega)
    have hi : i < s.size := by omega
    rw [scan_step s g i hi d1, from_step s g i hi, d2, d3]
    exact ⟨r.1, by rw [r.2]⟩
theorem flat_length (xs : List Int) : xs.length ≤ (xs.flatMap put).length := by
  induction xs with
  | nil => simp
  | cons x xs ih => simp only [List.flatMap_cons, List.length_append, List.length_cons]; have := (put_length x).1; omega
theorem reads_all (s : ByteArray) (xs : List Int) (hr : ∀ x ∈ xs, right x = true) (h : (xs.flatMap put).length = s.size) (hh : Holds s 0 (xs.flatMap put)) : firstBad s = none ∧ all s = xs :=
  reads_put s xs s.size 0 hr (by omega) hh (by have := flat_length xs; omega)

theorem flat_range (xs : List Int) (hr : ∀ x ∈ xs, right x = true) : ∀ y ∈ xs.flatMap put, 0 ≤ y ∧ y ≤ 255 := by
  intro y hy
  obtain ⟨x, hx, hy⟩ := List.mem_flatMap.1 hy
  exact put_range x (hr x hx) y hy

theorem wf_of {n : Int} (h : 0 ≤ n ∧ n ≤ 255) : (Lit.int .u8 n).wf = true := by
  have h : IntKind.u8.min ≤ n ∧ n ≤ IntKind.u8.max := h
  simpa [Lit.wf] using h
/-- What an owned row looks like. -/
theorem own_open {w : World} {B n : Nat} {e : TypeId} {v : Value} {xs : List Value} (h : w.ownsRow B e 1 v n xs) :
    ∃ a cap, v = .slice a n cap ∧ n ≤ cap ∧ cap ≤ 9223372036854775807 ∧ (0 < n → ∃ g, a = some ⟨g, 0, none⟩ ∧ B ≤ g ∧ ∀ j, j < n → w.cell? ⟨g, 0 + j, none⟩ = xs[j]?) := by
  rcases h.2 with ⟨rfl, rfl⟩ | ⟨g, cap, cur, rfl, hB, hg, hn, hm, hs, ht⟩
  · exact ⟨none, 0, rfl, Nat.le_refl _, by omega, fun h => absurd h (by omega)⟩
  · refine ⟨_, cap, rfl, hn, by unfold maxLen at hm; omega, fun _ => ⟨g, rfl, hB, fun j hj => ?_⟩⟩
    rw [Nat.zero_add]
    exact h.cellAt j (by omega)

/-- An owned row of byte numbers is a slice that holds them. -/
theorem sl_of_own {w : World} {B : Nat} {v : Value} {l : List Int} (h : w.ownsRow B 5 1 v l.length (cellsOf l)) (hl : ∀ y ∈ l, 0 ≤ y ∧ y ≤ 255) :
    Sl w v (frame.bytesOf l) := by
  have hw : ∀ n ∈ l, (Lit.int .u8 n).wf = true := fun n hn => wf_of (hl n hn)
  obtain ⟨a, cap, rfl, h1, h2, h3⟩ := own_open h
  refine ⟨a, cap, by rw [frame.bytesOf_size], by rw [frame.bytesOf_size]; exact h1, h2, fun hp => ?_⟩
  rw [frame.bytesOf_size] at hp
  obtain ⟨g, rfl, -, hc⟩ := h3 hp
  refine ⟨g, 0, rfl, fun j hj => ?_⟩
  rw [frame.bytesOf_size] at hj
  rw [hc j hj, frame.bytesOf_get l j hj hw]
  simp [cellsOf, List.getD_eq_getElem?_getD, hj]
theorem holds_bytesOf (l : List Int) (hl : ∀ y ∈ l, 0 ≤ y ∧ y ≤ 255) : Holds (frame.bytesOf l) 0 l := by
  have hw : ∀ n ∈ l, (Lit.int .u8 n).wf = true := fun n hn => wf_of (hl n hn)
  refine ⟨by rw [frame.bytesOf_size]; omega, fun j hj => ?_⟩
  rw [Nat.zero_add]
  exact frame.bytesOf_get l j hj hw
/-- An owned row of numbers is a slice that holds them. -/
theorem nums_of_own {w : World} {B : Nat} {v : Value} {l : List Int} (h : w.ownsRow B 3 1 v l.length (ints l)) : Nums w v l := by
  obtain ⟨a, cap, rfl, h1, h2, h3⟩ := own_open h
  refine ⟨a, cap, rfl, h1, h2, fun hp => ?_⟩
  obtain ⟨g, rfl, -, hc⟩ := h3 hp
  refine ⟨g, 0, rfl, fun j hj => ?_⟩
  rw [hc j hj]
  simp [ints, List.getD_eq_getElem?_getD, hj]
/-- What was put is read as it was. -/
theorem reads_upto (xs : List Int) (hr : ∀ j, j < xs.length → right (xs.getD j 0) = true) : firstBad (frame.bytesOf (upto xs xs.length)) = none ∧ all (frame.bytesOf (upto xs xs.length)) = xs := by
  have e : upto xs xs.length = xs.flatMap put := by unfold upto; rw [List.take_length]
  have hx : ∀ x ∈ xs, right x = true := fun x hx => by
    obtain ⟨j, hj, rfl⟩ := List.getElem_of_mem hx
    have := hr j hj
    rwa [List.getD_eq_getElem?_getD, List.getElem?_eq_getElem hj] at this
  rw [e]
  exact reads_all _ xs hx (by rw [frame.bytesOf_size]) (holds_bytesOf _ (flat_range xs hx))
theorem badAt_all {xs : List Int} (h : badAt xs = none) : ∀ j, j < xs.length → right (xs.getD j 0) = true := by
  unfold badAt at h
  rw [List.find?_eq_none] at h
  intro j hj
  have := h j (by simpa using hj)
  simpa using this
theorem upto_range (xs : List Int) (hr : ∀ j, j < xs.length → right (xs.getD j 0) = true) (k : Nat) : ∀ y ∈ upto xs k, 0 ≤ y ∧ y ≤ 255 := by
  apply flat_range
  intro x hx
  obtain ⟨j, hj, rfl⟩ := List.getElem_of_mem hx
  have hj' : j < xs.length := by have := List.length_take_le k xs; have h2 := List.length_take_le' k xs; omega
  have := hr j hj'
  rw [List.getD_eq_getElem?_getD, List.getElem?_eq_getElem hj'] at this
  simpa using this
end Go.Proofs.YtoilalffhmjhdaaGreatDoor.ref
