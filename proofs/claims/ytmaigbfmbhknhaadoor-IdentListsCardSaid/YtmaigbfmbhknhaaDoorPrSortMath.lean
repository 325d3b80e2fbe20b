/- What is kept of a sorted row, one of each run, is the one list of its members that rises strictly. -/
import Derived.Test.YtmaigbfmbhknhaaDoorPrMath
import Derived.Lib.SlicesCompact
import Derived.Sort.Statements
namespace Go.Proofs.YtmaigbfmbhknhaaDoor.prints
open Go.Lib Go.Sort

theorem kept_mem {d : Array Pr} {n : Nat} (hn : n = d.size) (x : Pr) : x ∈ compactUpTo d n ↔ ∃ j, j < n ∧ d[j]! = x := by
  unfold compactUpTo
  simp only [List.mem_map, List.mem_filter, List.mem_range]
  constructor
  · rintro ⟨j, ⟨h1, -⟩, h2⟩
    exact ⟨j, h1, h2⟩
  · rintro ⟨j, h1, h2⟩
    induction j using Nat.strongRecOn with
    | _ j ih =>
      cases hk : keeps d j with
      | true => exact ⟨j, ⟨h1, hk⟩, h2⟩
      | false =>
        have hk' : ¬ (j = 0 ∨ d[j]! ≠ d[j - 1]!) := of_decide_eq_false hk
        have h0 : j ≠ 0 := fun h => hk' (.inl h)
        have he : d[j]! = d[j - 1]! := Decidable.byContradiction fun h => hk' (.inr h)
        exact ih (j - 1) (by omega) (by omega) (by rw [← he]; exact h2)

theorem kept_strict {d : Array Pr} {n : Nat} (hs : ∀ i j, i < j → j < n → lt d[j]! d[i]! = false) : Strict (compactUpTo d n) := by
  unfold compactUpTo Strict
  rw [List.pairwise_map]
  have hp : (List.range n).Pairwise (· < ·) := List.pairwise_lt_range
  have hf : ((List.range n).filter (keeps d)).Pairwise (· < ·) := hp.filter _
  refine List.Pairwise.imp_of_mem ?_ hf
  intro i j hi hj hij
  have hjn : j < n := List.mem_range.1 (List.mem_filter.1 hj).1
  have hk : keeps d j = true := (List.mem_filter.1 hj).2
  cases hl : lt d[i]! d[j]! with
  | true => rfl
  | false =>
    have e : d[i]! = d[j]! := lt_total hl (hs i j hij hjn)
    have hk' : j = 0 ∨ d[j]! ≠ d[j - 1]! := of_decide_eq_true hk
    rcases hk' with h | h
    · omega
    · exfalso
      apply h
      by_cases hij' : i = j - 1
      · rw [← hij', e]
      · have h1 := hs i (j - 1) (by omega) (by omega)
        have h2 := hs (j - 1) j (by omega) hjn
        rw [e] at h1
        exact lt_total h2 h1

theorem ltOf_lt : (fun x y : Pr => decide (cf x y < 0)) = lt := by funext x y; exact ltOf_cf x y
theorem swo_lt : SWO lt where
  irrefl := lt_irrefl
  trans _ _ _ := lt_trans
  ntrans x y z h1 h2 := by
    cases h : lt x z with
    | false => rfl
    | true =>
      cases hyx : lt y x with
      | true => rw [lt_trans hyx h] at h2; cases h2
      | false => rw [lt_total h1 hyx] at h; rw [h] at h2; cases h2

theorem sorted_wanted {zs : List Pr} {d : Array Pr} (hp : PermIn 0 zs.length zs.toArray d) (hs : SortedIn lt 0 zs.length d) : compactUpTo d d.size = wanted zs := by
  have hsz : d.size = zs.length := by have := hp.1; simpa using this
  refine strict_unique _ _ (kept_strict fun i j h1 h2 => hs i j (Nat.zero_le _) h1 (by omega)) (wanted_strict zs) fun x => ?_
  rw [kept_mem rfl, wanted_mem]
  have hm : x ∈ (d.extract 0 zs.length).toList ↔ x ∈ (zs.toArray.extract 0 zs.length).toList := hp.2.2.mem_iff
  have e1 : d.extract 0 zs.length = d := by rw [← hsz]; simp
  have e2 : (zs.toArray.extract 0 zs.length).toList = zs := by simp [List.extract_eq_take_drop]
  rw [e1, e2] at hm
  rw [← hm]
  constructor
  · rintro ⟨j, h1, rfl⟩
    rw [getElem!_pos d j h1]
    simp
  · intro h
    obtain ⟨j, h1, rfl⟩ := List.getElem_of_mem h
    exact ⟨j, by simpa using h1, by rw [getElem!_pos d j (by simpa using h1)]; simp⟩
end Go.Proofs.YtmaigbfmbhknhaaDoor.prints
