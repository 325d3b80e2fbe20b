/- Plain mathematics of the law on walks: the tree that numbers make, and where each number is in its walk. -/
import Derived.Test.YtegbaocpacbljaaArWMath
namespace Go.Proofs.Ytegbaocpacbljaa.arena

/-- What the numbers are beneath. -/
def Uof (zs : List Int) : Nat → Int
  | 0 => -1
  | j + 1 => zs.getD j 0 % ((j : Int) + 1)
theorem uof_step (zs : List Int) (j : Nat) (h : 0 ≤ zs.getD j 0) : ∃ u : Nat, zs.getD j 0 % ((j : Int) + 1) = (u : Int) ∧ u < j + 1 := by
  have h1 := Int.emod_nonneg (zs.getD j 0) (show ((j : Int) + 1) ≠ 0 by omega)
  have h2 := Int.emod_lt_of_pos (zs.getD j 0) (show 0 < ((j : Int) + 1) by omega)
  exact ⟨(zs.getD j 0 % ((j : Int) + 1)).toNat, by omega, by omega⟩
theorem uof_ok (zs : List Int) (n : Nat) (h : ∀ j, 0 ≤ zs.getD j 0) : Ok n (Uof zs) := by
  refine ⟨fun _ => rfl, fun i h0 _ => ?_⟩
  obtain ⟨j, rfl⟩ : ∃ j, i = j + 1 := ⟨i - 1, by omega⟩
  obtain ⟨u, h1, h2⟩ := uof_step zs j (h j)
  exact ⟨u, h1, h2⟩

/-- Each element's upper number stands ahead of it, or in a. -/
def Gd (U : Nat → Int) : List Int → List Nat → Prop
  | _, [] => True
  | a, x :: l => U x ∈ a ∧ Gd U (a ++ [(x : Int)]) l
theorem gd_append {U : Nat → Int} : ∀ (l m : List Nat) (a : List Int), Gd U a l → Gd U (a ++ l.map fun (x : Nat) => (x : Int)) m → Gd U a (l ++ m)
  | [], m, a, _, h => by simpa using h
  | x :: l, m, a, h1, h2 => ⟨h1.1, gd_append l m _ h1.2 (by simpa [List.append_assoc] using h2)⟩
theorem gd_flat {U : Nat → Int} {f : Nat → List Nat} {i : Int} : ∀ (cs : List Nat) (a : List Int), (∀ c ∈ cs, ∀ a : List Int, i ∈ a → Gd U a (f c)) → i ∈ a → Gd U a (cs.flatMap f)
  | [], _, _, _ => trivial
  | c :: cs, a, h, hi => by
    rw [List.flatMap_cons]
    exact gd_append _ _ _ (h c (List.mem_cons_self ..) a hi) (gd_flat cs _ (fun d hd => h d (List.mem_cons_of_mem _ hd)) (List.mem_append.2 (.inl hi)))
theorem gd_pw {n : Nat} {U : Nat → Int} : ∀ (g i : Nat) (a : List Int), U i ∈ a → Gd U a (pw (kidsOf n U) g i)
  | 0, _, _, _ => trivial
  | g + 1, i, a, h => ⟨h, gd_flat (i := (i : Int)) _ _ (fun c hc a ha => gd_pw g c a (by rw [(kidsOf_mem hc).2.2]; exact ha)) (by simp)⟩
theorem gd_get {U : Nat → Int} : ∀ (l : List Nat) (a : List Int), Gd U a l → ∀ (k : Nat) (hk : k < l.length), U l[k] ∈ a ∨ ∃ y ∈ l.take k, U l[k] = (y : Int)
  | [], _, _, k, hk => by simp at hk
  | x :: l, a, h, 0, _ => .inl h.1
  | x :: l, a, h, k + 1, hk => by
    have := gd_get l _ h.2 k (by simpa using hk)
    simp only [List.getElem_cons_succ, List.take_succ_cons]
    rcases this with h1 | ⟨y, hy, e⟩
    · rcases List.mem_append.1 h1 with h1 | h1
      · exact .inl h1
      · exact .inr ⟨x, List.mem_cons_self .., by simpa using h1⟩
    · exact .inr ⟨y, List.mem_cons_of_mem _ hy, e⟩

variable {n : Nat} {U : Nat → Int}
theorem root_mem (h : Ok n U) (hn : 0 < n) (x : Nat) : x ∈ walk n (kidsOf n U) 0 ↔ x < n := by
  constructor
  · exact fun hx => (walk_range (kd_kids h) hn x hx).2
  · intro hx
    have := count_root h x hx
    exact List.count_pos_iff.1 (by omega)
theorem root_nodup (h : Ok n U) (hn : 0 < n) : (walk n (kidsOf n U) 0).Nodup := by
  rw [List.nodup_iff_count]
  intro x
  by_cases hx : x < n
  · rw [count_root h x hx]; omega
  · rw [List.count_eq_zero.2 fun hm => hx ((root_mem h hn x).1 hm)]; omega
theorem root_first (h : Ok n U) {j u : Nat} (h0 : 0 < j) (hj : j < n) (hu : U j = (u : Int)) : (walk n (kidsOf n U) 0).idxOf u < (walk n (kidsOf n U) 0).idxOf j := by
  have hn : 0 < n := by omega
  have hm := (root_mem h hn j).2 hj
  have hk := List.idxOf_lt_length_of_mem hm
  have hg : Gd U [-1] (walk n (kidsOf n U) 0) := gd_pw _ _ _ (by rw [h.1 hn]; simp)
  have := gd_get _ _ hg _ hk
  rw [List.getElem_idxOf hk] at this
  rcases this with h1 | ⟨y, hy, e⟩
  · rw [hu] at h1
    simp at h1
  · rw [hu] at e
    obtain rfl : u = y := by omega
    obtain ⟨k, hk1, hk2⟩ := List.mem_take_iff_getElem.1 hy
    have hk3 : k < (walk n (kidsOf n U) 0).length := by omega
    rw [← hk2, (root_nodup h hn).idxOf_getElem k hk3]
    omega

/-- The places when k numbers have been looked at. -/
def pl (l : List Nat) (k x : Nat) : Int := if l.idxOf x < k then (l.idxOf x : Int) + 1 else 0
theorem pl_zero (l : List Nat) (x : Nat) : pl l 0 x = 0 := by simp [pl]
theorem pl_step {l : List Nat} (hn : l.Nodup) {k : Nat} (hk : k < l.length) (x : Nat) : (if x = l[k] then ((k : Int) + 1) else pl l k x) = pl l (k + 1) x := by
  unfold pl
  by_cases e : x = l[k]
  · rw [if_pos e, e, hn.idxOf_getElem k hk, if_pos (by omega)]
  · rw [if_neg e]
    by_cases h1 : l.idxOf x < k
    · rw [if_pos h1, if_pos (by omega)]
    · rw [if_neg h1, if_neg]
      intro h2
      have h3 : l.idxOf x = k := by omega
      have := List.getElem_idxOf (x := x) (xs := l) (by omega)
      apply e
      rw [← this]
      congr 1
theorem pl_fresh {l : List Nat} (hn : l.Nodup) {k : Nat} (hk : k < l.length) : pl l k l[k] = 0 := by
  unfold pl
  rw [hn.idxOf_getElem k hk, if_neg (by omega)]
theorem pl_all {l : List Nat} {x : Nat} (h : x ∈ l) : pl l l.length x = (l.idxOf x : Int) + 1 := by
  unfold pl
  rw [if_pos (List.idxOf_lt_length_of_mem h)]
end Go.Proofs.Ytegbaocpacbljaa.arena
