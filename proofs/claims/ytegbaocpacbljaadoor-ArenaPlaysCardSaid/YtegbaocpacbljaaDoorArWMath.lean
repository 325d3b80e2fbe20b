/- Plain mathematics of a walk: each number of a tree is in the walk from the root once, behind the number that it is beneath. -/
import Derived.Test.YtegbaocpacbljaaDoorArMath
namespace Go.Proofs.YtegbaocpacbljaaDoor.arena

/-- A walk, in so many levels. -/
def pw (C : Nat → List Nat) : Nat → Nat → List Nat
  | 0, _ => []
  | g + 1, i => i :: (C i).flatMap (pw C g)
def walk (n : Nat) (C : Nat → List Nat) (i : Nat) : List Nat := pw C (n - i) i
/-- Those beneath a number are greater, and there. -/
def Kd (n : Nat) (C : Nat → List Nat) : Prop := ∀ i j, i < n → j ∈ C i → i < j ∧ j < n
theorem flatMap_eq {f g : Nat → List Nat} : ∀ {l : List Nat}, (∀ x ∈ l, f x = g x) → l.flatMap f = l.flatMap g
  | [], _ => rfl
  | x :: l, h => by
    rw [List.flatMap_cons, List.flatMap_cons, h x (List.mem_cons_self ..), flatMap_eq fun y hy => h y (List.mem_cons_of_mem _ hy)]
theorem pw_fuel {n : Nat} {C : Nat → List Nat} (h : Kd n C) : ∀ (g g' i : Nat), i < n → n ≤ g + i → n ≤ g' + i → pw C g i = pw C g' i := by
  intro g
  induction g with
  | zero => intro g' i hi h1; omega
  | succ g ih =>
    intro g' i hi h1 h2
    obtain ⟨g', rfl⟩ : ∃ k, g' = k + 1 := ⟨g' - 1, by omega⟩
    simp only [pw]
    rw [flatMap_eq fun c hc => ih g' c (h i c hi hc).2 (by have := (h i c hi hc).1; omega) (by have := (h i c hi hc).1; omega)]
theorem walk_eq {n : Nat} {C : Nat → List Nat} (h : Kd n C) {i : Nat} (hi : i < n) : walk n C i = i :: (C i).flatMap (walk n C) := by
  unfold walk
  obtain ⟨g, hg⟩ : ∃ g, n - i = g + 1 := ⟨n - i - 1, by omega⟩
  rw [hg]
  simp only [pw]
  rw [flatMap_eq fun c hc => pw_fuel h g (n - c) c (h i c hi hc).2 (by have := (h i c hi hc).1; omega) (by omega)]
theorem pw_range {n : Nat} {C : Nat → List Nat} (h : Kd n C) : ∀ (g i : Nat), i < n → ∀ x ∈ pw C g i, i ≤ x ∧ x < n := by
  intro g
  induction g with
  | zero => intro i hi x hx; simp [pw] at hx
  | succ g ih =>
    intro i hi x hx
    simp only [pw, List.mem_cons, List.mem_flatMap] at hx
    rcases hx with rfl | ⟨c, hc, hx⟩
    · exact ⟨Nat.le_refl _, hi⟩
    · have h1 := h i c hi hc
      have := ih c h1.2 x hx
      omega
theorem walk_range {n : Nat} {C : Nat → List Nat} (h : Kd n C) {i : Nat} (hi : i < n) : ∀ x ∈ walk n C i, i ≤ x ∧ x < n := pw_range h _ _ hi

/-- How often a number is in lists that are put together. -/
theorem count_flatMap_eq {x : Nat} {f g : Nat → List Nat} {y : Nat} : ∀ {l : List Nat}, (∀ c ∈ l, (f c).count x = (if x = c then 1 else 0) + (g c).count y) → (l.flatMap f).count x = l.count x + (l.flatMap g).count y
  | [], _ => rfl
  | c :: l, h => by
    rw [List.flatMap_cons, List.flatMap_cons, List.count_append, List.count_append, h c (List.mem_cons_self ..), count_flatMap_eq fun d hd => h d (List.mem_cons_of_mem _ hd), List.count_cons]
    by_cases e : x = c
    · subst e; simp; omega
    · have e' : ¬ (c == x) = true := by simpa using fun e2 => e e2.symm
      rw [if_neg e, if_neg e']; omega
theorem count_kids {n : Nat} {U : Nat → Int} {i j : Nat} (hj : 0 < j) (hn : j < n) : (kidsOf n U i).count j = if U j = (i : Int) then 1 else 0 := by
  unfold kidsOf
  by_cases h : U j = (i : Int)
  · rw [if_pos h, List.count_filter (by simp [hj, h])]
    clear h
    induction n with
    | zero => omega
    | succ n ih =>
      rw [List.range_succ, List.count_append]
      by_cases e : j = n
      · subst e
        rw [List.count_eq_zero.2 (by simp)]; simp
      · rw [ih (by omega), List.count_eq_zero.2 (by simpa using e)]
  · rw [if_neg h]
    apply List.count_eq_zero.2
    intro hm
    rw [List.mem_filter] at hm
    simp at hm
    exact h hm.2.2

theorem kd_kids {n : Nat} {U : Nat → Int} (h : Ok n U) : Kd n (kidsOf n U) := fun i j hi hj => by
  obtain ⟨h0, h1, h2⟩ := kidsOf_mem hj
  obtain ⟨u, h3, h4⟩ := h.2 j h0 h1
  rw [h2] at h3
  omega
theorem count_pw {n : Nat} {U : Nat → Int} (h : Ok n U) : ∀ (g i : Nat), i < n → n ≤ g + i → ∀ j u, 0 < j → j < n → U j = ((u : Nat) : Int) → (pw (kidsOf n U) g i).count j = (if j = i then 1 else 0) + (pw (kidsOf n U) g i).count u := by
  intro g
  induction g with
  | zero => intro i hi h1; omega
  | succ g ih =>
    intro i hi h1 j u hj hjn hu
    have K := kd_kids h
    have e := count_flatMap_eq (x := j) (y := u) (f := pw (kidsOf n U) g) (g := pw (kidsOf n U) g) (l := kidsOf n U i) fun c hc => ih c (K i c hi hc).2 (by have := (K i c hi hc).1; omega) j u hj hjn hu
    simp only [pw]
    rw [List.count_cons, List.count_cons, e, count_kids hj hjn, hu]
    by_cases e1 : j = i
    · subst e1
      have e2 : ¬ u = j := by
        obtain ⟨v, h3, h4⟩ := h.2 j hj hjn
        rw [hu] at h3
        omega
      have e3 : ¬ j = u := fun e => e2 e.symm
      have e4 : ¬ (u : Int) = (j : Int) := by omega
      simp [e3, e4]
      omega
    · have e1' : ¬ i = j := fun e2 => e1 e2.symm
      by_cases e2 : u = i
      · subst e2; simp [e1, e1']; omega
      · have e2' : ¬ i = u := fun e3 => e2 e3.symm
        have e4 : ¬ (u : Int) = (i : Int) := by omega
        simp [e1, e1', e2', e4]
theorem count_walk {n : Nat} {U : Nat → Int} (h : Ok n U) {i : Nat} (hi : i < n) : ∀ j, j < n → (walk n (kidsOf n U) i).count j ≤ 1 := by
  intro j
  induction j using Nat.strongRecOn with
  | ind j ih =>
    intro hj
    by_cases hlt : j < i
    · rw [List.count_eq_zero.2 fun hm => by have := (walk_range (kd_kids h) hi j hm).1; omega]; omega
    · by_cases h0 : j = 0
      · obtain rfl : i = 0 := by omega
        subst h0
        rw [walk_eq (kd_kids h) hi, List.count_cons, List.count_eq_zero.2]
        · simp
        · intro hm
          obtain ⟨c, hc, hm⟩ := List.mem_flatMap.1 hm
          have h1 := kd_kids h 0 c hi hc
          have := (walk_range (kd_kids h) h1.2 0 hm).1
          omega
      · obtain ⟨u, h3, h4⟩ := h.2 j (by omega) hj
        have := count_pw h (n - i) i hi (by omega) j u (by omega) hj h3
        unfold walk
        rw [this]
        by_cases e : j = i
        · subst e
          rw [if_pos rfl, List.count_eq_zero.2 fun hm => by have := (pw_range (kd_kids h) _ _ hi u hm).1; omega]
          omega
        · rw [if_neg e]
          have := ih u h4 (by omega)
          unfold walk at this
          omega
theorem count_root {n : Nat} {U : Nat → Int} (h : Ok n U) : ∀ j, j < n → (walk n (kidsOf n U) 0).count j = 1 := by
  intro j
  induction j using Nat.strongRecOn with
  | ind j ih =>
    intro hj
    by_cases h0 : j = 0
    · subst h0
      have h1 := count_walk h hj 0 hj
      have h2 : 0 < (walk n (kidsOf n U) 0).count 0 := by
        rw [List.count_pos_iff, walk_eq (kd_kids h) hj]
        exact List.mem_cons_self ..
      omega
    · obtain ⟨u, h3, h4⟩ := h.2 j (by omega) hj
      have := count_pw h (n - 0) 0 (by omega) (by omega) j u (by omega) hj h3
      unfold walk
      rw [this, if_neg h0]
      have := ih u h4 (by omega)
      unfold walk at this
      omega

theorem len_count : ∀ (n : Nat) (l : List Nat), (∀ x ∈ l, x < n) → (∀ x, x < n → l.count x ≤ 1) → l.length ≤ n ∧ ((∀ x, x < n → l.count x = 1) → l.length = n) := by
  intro n
  induction n with
  | zero =>
    intro l h _
    have : l = [] := List.eq_nil_iff_forall_not_mem.2 fun x hx => by have := h x hx; omega
    subst this
    simp
  | succ n ih =>
    intro l h1 h2
    have e : l.length = (l.filter (fun x => x != n)).length + l.count n := by
      rw [← List.countP_eq_length_filter, List.length_eq_countP_add_countP (fun x => x != n) (l := l)]
      congr 1
      unfold List.count
      apply List.countP_congr
      intro x _
      simp
    have c : ∀ x, x < n → (l.filter (fun x => x != n)).count x = l.count x := fun x hx => List.count_filter (by simp; omega)
    obtain ⟨i1, i2⟩ := ih (l.filter (fun x => x != n)) (fun x hx => by
      rw [List.mem_filter] at hx
      have h3 := h1 x hx.1
      have h4 : x ≠ n := by simpa using hx.2
      omega) (fun x hx => by rw [c x hx]; exact h2 x (by omega))
    refine ⟨by have := h2 n (by omega); omega, fun h3 => ?_⟩
    have h4 := h3 n (by omega)
    have h5 := i2 fun x hx => by rw [c x hx]; exact h3 x (by omega)
    omega
theorem walk_length {n : Nat} {U : Nat → Int} (h : Ok n U) {i : Nat} (hi : i < n) : (walk n (kidsOf n U) i).length ≤ n :=
  (len_count n _ (fun x hx => (walk_range (kd_kids h) hi x hx).2) (count_walk h hi)).1
theorem walk_root_length {n : Nat} {U : Nat → Int} (h : Ok n U) (hn : 0 < n) : (walk n (kidsOf n U) 0).length = n :=
  (len_count n _ (fun x hx => (walk_range (kd_kids h) hn x hx).2) (count_walk h hn)).2 (count_root h)
end Go.Proofs.YtegbaocpacbljaaDoor.arena
