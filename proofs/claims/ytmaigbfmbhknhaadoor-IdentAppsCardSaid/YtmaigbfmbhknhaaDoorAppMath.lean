/- What App tells of a text with one byte more, and of a text that is cut; an app's parts put together. -/
import Derived.Test.YtmaigbfmbhknhaaDoorApp2
namespace Go.Proofs.YtmaigbfmbhknhaaDoor.ident
open Go.RowKit

theorem byteAt_append {s t : ByteArray} {k : Nat} (h : k < s.size) : byteAt (s ++ t) k = byteAt s k := by
  rw [byteAt_eq h, byteAt_eq (by rw [ByteArray.size_append]; omega)]
  congr 1
  exact ByteArray.getElem_append_left h
theorem byteAt_last {s : ByteArray} {c : UInt8} : byteAt (s ++ ⟨#[c]⟩) s.size = c.toNat := by
  have hz : (⟨#[c]⟩ : ByteArray).size = 1 := rfl
  rw [byteAt_eq (by rw [ByteArray.size_append, hz]; omega), ByteArray.getElem_append_right (Nat.le_refl _)]
  simp only [Nat.sub_self]
  rfl
theorem byteAt_extract {s : ByteArray} {n k : Nat} (h : k < n) (hn : n ≤ s.size) : byteAt (s.extract 0 n) k = byteAt s k := by
  rw [byteAt_eq (show k < s.size by omega), byteAt_eq (by rw [ByteArray.size_extract]; omega)]
  congr 1
  rw [ByteArray.getElem_extract]
  simp

theorem canApp_at {s t : ByteArray} {k : Nat} (h : byteAt t k = byteAt s k) : canApp t k = canApp s k := by
  unfold canApp
  rw [h]

theorem app_all {s : ByteArray} (h : appBad s = none) : 11 < s.size ∧ s.size ≤ 166 ∧ ∀ k, k < s.size → canApp s k = true := by
  obtain ⟨h1, h2⟩ := verdict_none h
  have h1 : 11 < s.size := by simpa using h1
  refine ⟨h1, ?_, fun k hk => (h2 k (Nat.zero_le _) (by omega)).2⟩
  rcases Nat.lt_or_ge 166 s.size with h3 | h3
  · exact absurd rfl (h2 166 (Nat.zero_le _) (by omega)).1
  · exact h3

theorem app_more {s : ByteArray} (h : appBad s = none) : ∃ k a, appBad (s ++ ⟨#[33]⟩) = some (k, a) := by
  obtain ⟨h1, -, -⟩ := app_all h
  cases hm : appBad (s ++ ⟨#[33]⟩) with
  | some ka => exact ⟨ka.1, ka.2, rfl⟩
  | none =>
    have h2 := (app_all hm).2.2 s.size (by rw [ByteArray.size_append]; show s.size < s.size + 1; omega)
    unfold canApp at h2
    rw [if_neg (by omega), if_neg (by omega), byteAt_last] at h2
    exact absurd h2 (by rw [show inB inBundle ((33 : UInt8).toNat : Nat) = false by kernel_rfl]; decide)

theorem verdict_short {most : Nat} {can : Nat → Bool} : ∀ {g i : Nat}, (∀ k, i ≤ k → k < i + g → k ≠ most ∧ can k = true) → verdict most false can g i = some (10, i + g)
  | 0, i, _ => rfl
  | g + 1, i, h => by
    obtain ⟨h1, h2⟩ := h i (Nat.le_refl _) (by omega)
    rw [verdict_on h1 h2, verdict_short fun k h3 h4 => h k (by omega) (by omega)]
    congr 2; omega

theorem app_cut {s : ByteArray} (h : appBad s = none) : appBad (s.extract 0 10) = some (10, 10) := by
  obtain ⟨h1, -, h2⟩ := app_all h
  have hs : (s.extract 0 10).size = 10 := by rw [ByteArray.size_extract]; omega
  unfold appBad
  rw [hs, show decide (11 < 10) = false from rfl]
  exact verdict_short fun k _ hk => ⟨by omega, (canApp_at (byteAt_extract (by omega) (by omega))).trans (h2 k (by omega))⟩

theorem cut_join (l : List UInt8) (h : 10 < l.length) (hc : l[10] = 46) : l.extract 0 10 ++ [46] ++ l.extract 11 l.length = l := by
  have e1 : l.extract 0 10 = l.take 10 := by simp [List.extract_eq_take_drop]
  have e2 : l.extract 11 l.length = l.drop 11 := by
    rw [List.extract_eq_take_drop]
    exact List.take_of_length_le (by simp)
  rw [e1, e2, ← hc, List.append_assoc, List.singleton_append, ← List.drop_eq_getElem_cons h, List.take_append_drop]
theorem app_text {s : ByteArray} (h : appBad s = none) : s.extract 0 10 ++ ⟨#[46]⟩ ++ s.extract 11 s.size = s := by
  obtain ⟨h1, -, h2⟩ := app_all h
  have hp := h2 10 (by omega)
  unfold canApp at hp
  rw [if_neg (by omega), if_pos rfl, beq_iff_eq] at hp
  have hc : s[10] = 46 := by
    rw [byteAt_eq (show 10 < s.size by omega)] at hp
    exact UInt8.toNat_inj.1 (by rw [show (46 : UInt8).toNat = 46 from rfl]; omega)
  have e : ∀ n, n = s.size → s.extract 0 10 ++ ⟨#[46]⟩ ++ s.extract 11 n = s := by
    intro n hn
    apply ByteArray.ext
    apply Array.ext'
    simp only [ByteArray.data_append, ByteArray.data_extract, Array.toList_append, Array.toList_extract]
    have hl : s.data.toList.length = s.size := rfl
    have hc' : s.data.toList[10]'(by omega) = 46 := hc
    rw [hn, ← hl]
    exact cut_join _ (by omega) hc'
  exact e _ rfl
end Go.Proofs.YtmaigbfmbhknhaaDoor.ident
