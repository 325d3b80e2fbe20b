/- Plain mathematics: right bytes with bytes behind them: their characters one behind the other; what isn't right is told behind the first. -/
import Derived.Test.YtoilalffhmjhdaaGreatDoorPutMath
set_option linter.unusedSimpArgs false
set_option linter.unusedVariables false
namespace Go.Proofs.YtoilalffhmjhdaaGreatDoor.ref
open Go.RowKit Go.Proofs.YtoilalffhmjhdaaGreatDoor.errs Go.Proofs.YtoilalffhmjhdaaGreatDoor.utf Go.Proofs.YtoilalffhmjhdaaGreatDoor.umath Go.Proofs.YtoilalffhmjhdaaGreatDoor.half Go.Proofs.YtoilalffhmjhdaaGreatDoor.chars Go.Proofs.YtoilalffhmjhdaaGreatDoor.text

/-- Where a character stands, there stand its bytes. -/
theorem char_put (s : ByteArray) (i : Nat) (h : i < s.size) (hc : charAt s i = true) :
    right (Utf8.decode s i).1 = true ∧ (put (Utf8.decode s i).1).length = (Utf8.decode s i).2 ∧ Holds s i (put (Utf8.decode s i).1) := by
  have f := (agrees s i h).1 ((charAt_iff s i).1 hc)
  have e : guessAt s i (Utf8.decode s i).2 = ((Utf8.decode s i).1 : Int) := f.val
  have hh : HitAt s i (Utf8.decode s i).2 := f.hit
  have hl := rowAt_length s i _ f.pos f.most
  obtain ⟨h1, h2⟩ := hh
  rw [e] at h1 h2
  have hfit := decode_fits s i h
  refine ⟨h1, by rw [h2, hl], by rw [h2, hl]; exact hfit, fun j hj => ?_⟩
  rw [h2] at hj ⊢
  rw [hl] at hj
  exact (rowAt_get s i _ j f.pos f.most hj).symm

theorem holds_append {s : ByteArray} {i : Nat} {a b : List Int} (h1 : Holds s i a) (h2 : Holds s (i + a.length) b) : Holds s i (a ++ b) := by
  refine ⟨by rw [List.length_append]; have := h2.1; omega, fun j hj => ?_⟩
  rw [List.length_append] at hj
  by_cases h : j < a.length
  · rw [h1.2 j h]; simp [List.getD_eq_getElem?_getD, List.getElem?_append_left h]
  · have := h2.2 (j - a.length) (by omega)
    rw [show i + a.length + (j - a.length) = i + j by omega] at this
    rw [this]
    simp [List.getD_eq_getElem?_getD, List.getElem?_append_right (show a.length ≤ j by omega)]

/-- Right bytes are their characters' bytes. -/
theorem unput (s : ByteArray) : ∀ (g i : Nat), s.size ≤ i + g → i ≤ s.size → scan s g i = none →
    (∀ x ∈ from_ s g i, right x = true) ∧ Holds s i ((from_ s g i).flatMap put) ∧ i + ((from_ s g i).flatMap put).length = s.size
  | 0, i, hg, hi, _ => ⟨by simp [from_], ⟨by simp [from_]; omega, by simp [from_]⟩, by simp [from_]; omega⟩
  | g + 1, i, hg, hi, hs => by
    by_cases hlt : i < s.size
    · cases hc : charAt s i with
      | false => rw [scan_bad s g i hlt hc] at hs; simp at hs
      | true =>
        rw [scan_step s g i hlt hc] at hs
        obtain ⟨-, b2, -⟩ := decode_bounds s i
        have hfit := decode_fits s i hlt
        obtain ⟨r1, r2, r3⟩ := char_put s i hlt hc
        obtain ⟨q1, q2, q3⟩ := unput s g (i + (Utf8.decode s i).2) (by omega) hfit hs
        rw [from_step s g i hlt]
        refine ⟨fun x hx => ?_, ?_, ?_⟩
        · rcases List.mem_cons.1 hx with rfl | hx
          · exact r1
          · exact q1 x hx
        · rw [List.flatMap_cons]
          exact holds_append r3 (by rw [r2]; exact q2)
        · rw [List.flatMap_cons, List.length_append, r2]
          omega
    · rw [from_end s _ i (by omega)]
      exact ⟨by simp, ⟨by simp; omega, by simp⟩, by simp; omega⟩

/-- Characters' bytes with anything behind them. -/
theorem reads_before (s : ByteArray) : ∀ (xs : List Int) (g i : Nat), (∀ x ∈ xs, right x = true) → Holds s i (xs.flatMap put) → xs.length ≤ g →
    scan s g i = scan s (g - xs.length) (i + (xs.flatMap put).length) ∧ from_ s g i = xs ++ from_ s (g - xs.length) (i + (xs.flatMap put).length)
  | [], g, i, _, _, _ => ⟨rfl, rfl⟩
  | x :: xs, 0, i, _, _, hg => by simp at hg
  | x :: xs, g + 1, i, hr, hh, hg => by
    have hx := hr x (List.mem_cons_self ..)
    simp only [List.flatMap_cons, List.length_append] at hh ⊢
    simp only [List.length_cons] at hg ⊢
    obtain ⟨l1, l2⟩ := put_length x
    obtain ⟨d1, d2, d3⟩ := decode_put s i x hx hh.left
    obtain ⟨r1, r2⟩ := reads_before s xs g (i + (put x).length) (fun y hy => hr y (List.mem_cons_of_mem _ hy)) hh.right (by omega)
    have hi : i < s.size := by have := hh.left.1; omega
    rw [scan_step s g i hi d1, from_step s g i hi, d2, d3, r1, r2, show g + 1 - (xs.length + 1) = g - xs.length by omega, show i + ((put x).length + (xs.flatMap put).length) = i + (put x).length + (xs.flatMap put).length by omega]
    exact ⟨rfl, rfl⟩

/-- Bytes that stand in others from a place on are read there as they are. -/
structure Tail (s b : ByteArray) (m : Nat) : Prop where
  size : s.size = m + b.size
  get : ∀ j, s.get! (m + j) = b.get! j
theorem Tail.decode {s b : ByteArray} {m : Nat} (h : Tail s b m) (j : Nat) : Utf8.decode s (m + j) = Utf8.decode b j := by
  rw [Lib.decode_at, Lib.decode_at, h.get j, show m + j + 1 = m + (j + 1) by omega, show m + j + 2 = m + (j + 2) by omega, show m + j + 3 = m + (j + 3) by omega, h.get, h.get, h.get, h.size, show m + b.size - (m + j) = b.size - j by omega]
theorem Tail.scan {s b : ByteArray} {m : Nat} (h : Tail s b m) : ∀ (g j : Nat), utf.scan s g (m + j) = (utf.scan b g j).map (m + ·)
  | 0, j => rfl
  | g + 1, j => by
    have hc : charAt s (m + j) = charAt b j := by unfold charAt; rw [h.decode j]
    by_cases hj : j < b.size
    · cases hb : charAt b j with
      | false =>
        rw [scan_bad b g j hj hb, scan_bad s g (m + j) (by rw [h.size]; omega) (by rw [hc, hb])]
        rfl
      | true =>
        rw [scan_step b g j hj hb, scan_step s g (m + j) (by rw [h.size]; omega) (by rw [hc, hb]), h.decode j, Nat.add_assoc]
        exact h.scan g _
    · rw [scan_end b _ j (by omega), scan_end s _ (m + j) (by rw [h.size]; omega)]
      rfl
theorem Tail.from {s b : ByteArray} {m : Nat} (h : Tail s b m) : ∀ (g j : Nat), from_ s g (m + j) = from_ b g j
  | 0, j => rfl
  | g + 1, j => by
    by_cases hj : j < b.size
    · rw [from_step b g j hj, from_step s g (m + j) (by rw [h.size]; omega), h.decode j, Nat.add_assoc, h.from g _]
    · rw [from_end b _ j (by omega), from_end s _ (m + j) (by rw [h.size]; omega)]

theorem scan_more (s : ByteArray) : ∀ (g g' i : Nat), s.size ≤ i + g → g ≤ g' → scan s g' i = scan s g i
  | 0, g', i, h, _ => by rw [scan_end s g' i (by omega), scan_end s 0 i (by omega)]
  | g + 1, 0, i, _, h => by omega
  | g + 1, g' + 1, i, h, hg => by
    by_cases hi : i < s.size
    · obtain ⟨-, b2, -⟩ := decode_bounds s i
      cases hc : charAt s i with
      | false => rw [scan_bad s g i hi hc, scan_bad s g' i hi hc]
      | true => rw [scan_step s g i hi hc, scan_step s g' i hi hc]; exact scan_more s g g' _ (by omega) (by omega)
    · rw [scan_end s _ i (by omega), scan_end s _ i (by omega)]
theorem from_more (s : ByteArray) : ∀ (g g' i : Nat), s.size ≤ i + g → g ≤ g' → from_ s g' i = from_ s g i
  | 0, g', i, h, _ => by rw [from_end s g' i (by omega), from_end s 0 i (by omega)]
  | g + 1, 0, i, _, h => by omega
  | g + 1, g' + 1, i, h, hg => by
    by_cases hi : i < s.size
    · obtain ⟨-, b2, -⟩ := decode_bounds s i
      rw [from_step s g i hi, from_step s g' i hi, from_more s g g' _ (by omega) (by omega)]
    · rw [from_end s _ i (by omega), from_end s _ i (by omega)]

theorem joined (a b s : ByteArray) (ha : firstBad a = none) (h0 : ∀ j, j < a.size → s.get! j = a.get! j) (h : Tail s b a.size) :
    firstBad s = (firstBad b).map (a.size + ·) ∧ all s = all a ++ all b := by
  obtain ⟨r1, r2, r3⟩ := unput a a.size 0 (by omega) (by omega) ha
  have hl := flat_length (from_ a a.size 0)
  have hh : Holds s 0 ((from_ a a.size 0).flatMap put) := by
    refine ⟨by rw [h.size]; omega, fun j hj => ?_⟩
    rw [← r2.2 j hj]
    unfold bt
    rw [h0 (0 + j) (by omega)]
  obtain ⟨p1, p2⟩ := reads_before s _ s.size 0 r1 hh (by rw [h.size]; omega)
  rw [r3] at p1 p2
  have hg : b.size ≤ s.size - (from_ a a.size 0).length := by rw [h.size]; omega
  have e1 := h.scan (s.size - (from_ a a.size 0).length) 0
  have e2 := h.from (s.size - (from_ a a.size 0).length) 0
  rw [Nat.add_zero] at e1 e2
  rw [scan_more b b.size _ 0 (by omega) hg] at e1
  rw [from_more b b.size _ 0 (by omega) hg] at e2
  exact ⟨p1.trans e1, by unfold all; rw [p2, e2]⟩

theorem bytesOf_get_all (l : List Int) (j : Nat) : (frame.bytesOf l).get! j = ((l.map fun z => UInt8.ofNat z.toNat)[j]?).getD default := by
  unfold frame.bytesOf
  rw [show (⟨(l.map fun z => UInt8.ofNat z.toNat).toArray⟩ : ByteArray).get! j = ((l.map fun z => UInt8.ofNat z.toNat).toArray)[j]! from rfl]
  simp [getElem!_def]
  cases l[j]? <;> rfl
theorem tail_bytesOf (l ms : List Int) : Tail (frame.bytesOf (l ++ ms)) (frame.bytesOf ms) (frame.bytesOf l).size := by
  refine ⟨by simp only [frame.bytesOf_size, List.length_append], fun j => ?_⟩
  rw [bytesOf_get_all, bytesOf_get_all, frame.bytesOf_size, List.map_append, List.getElem?_append_right (by simp)]
  simp
theorem head_bytesOf (l ms : List Int) (j : Nat) (hj : j < (frame.bytesOf l).size) : (frame.bytesOf (l ++ ms)).get! j = (frame.bytesOf l).get! j := by
  rw [frame.bytesOf_size] at hj
  rw [bytesOf_get_all, bytesOf_get_all, List.map_append, List.getElem?_append_left (by simpa using hj)]
end Go.Proofs.YtoilalffhmjhdaaGreatDoor.ref
