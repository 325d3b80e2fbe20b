/- Plain mathematics of trees told by the numbers above: how deep a number is; the order in which a walk has them. -/
import Derived.Test.YtegbaocpacbljaaDoorArBase
namespace Go.Proofs.YtegbaocpacbljaaDoor.arena

/-- Each number but 0 is beneath a smaller one. -/
def Ok (n : Nat) (U : Nat → Int) : Prop := (0 < n → U 0 = -1) ∧ ∀ i, 0 < i → i < n → ∃ u : Nat, U i = (u : Int) ∧ u < i
theorem Ok.up {n : Nat} {U : Nat → Int} (h : Ok n U) {i : Nat} (h0 : 0 < i) (hi : i < n) : U i = ((U i).toNat : Int) ∧ (U i).toNat < i := by
  obtain ⟨u, h1, h2⟩ := h.2 i h0 hi
  rw [h1]; simp; exact h2

/-- How deep a number is, in so many steps. -/
def dp (U : Nat → Int) : Nat → Nat → Nat
  | 0, _ => 0
  | g + 1, i => if i = 0 then 0 else dp U g (U i).toNat + 1
theorem dp_fuel {n : Nat} {U : Nat → Int} (h : Ok n U) : ∀ (i g g' : Nat), i < n → i ≤ g → i ≤ g' → dp U g i = dp U g' i := by
  intro i
  induction i using Nat.strongRecOn with
  | ind i ih =>
    intro g g' hi h1 h2
    by_cases h0 : i = 0
    · subst h0
      cases g <;> cases g' <;> simp [dp]
    · obtain ⟨g, rfl⟩ : ∃ k, g = k + 1 := ⟨g - 1, by omega⟩
      obtain ⟨g', rfl⟩ : ∃ k, g' = k + 1 := ⟨g' - 1, by omega⟩
      obtain ⟨-, h4⟩ := h.up (by omega) hi
      simp only [dp, if_neg h0]
      rw [ih _ h4 g g' (by omega) (by omega) (by omega)]
def depth (U : Nat → Int) (i : Nat) : Nat := dp U i i
theorem depth_zero (U : Nat → Int) : depth U 0 = 0 := rfl
theorem depth_step {n : Nat} {U : Nat → Int} (h : Ok n U) {i u : Nat} (h0 : 0 < i) (hi : i < n) (hu : U i = (u : Int)) : depth U i = depth U u + 1 := by
  obtain ⟨h3, h4⟩ := h.up h0 hi
  have e : (U i).toNat = u := by rw [hu]; simp
  rw [e] at h4
  unfold depth
  obtain ⟨k, rfl⟩ : ∃ k, i = k + 1 := ⟨i - 1, by omega⟩
  rw [show dp U (k + 1) (k + 1) = dp U k (U (k + 1)).toNat + 1 from by simp [dp], e, dp_fuel h u k u (by omega) (by omega) (Nat.le_refl _)]
theorem depth_le {n : Nat} {U : Nat → Int} (h : Ok n U) : ∀ i, i < n → depth U i ≤ i := by
  intro i
  induction i using Nat.strongRecOn with
  | ind i ih =>
    intro hi
    by_cases h0 : i = 0
    · subst h0; exact Nat.le_refl _
    · obtain ⟨h3, h4⟩ := h.up (by omega) hi
      rw [depth_step h (by omega) hi h3]
      have := ih _ h4 (by omega)
      omega
theorem dp_congr {n : Nat} {U U' : Nat → Int} (h : Ok n U) (e : ∀ j, j < n → U j = U' j) : ∀ (g i : Nat), i < n → dp U g i = dp U' g i := by
  intro g
  induction g with
  | zero => intro i hi; rfl
  | succ g ih =>
    intro i hi
    simp only [dp]
    by_cases h0 : i = 0
    · rw [if_pos h0, if_pos h0]
    · rw [if_neg h0, if_neg h0, ← e i hi, ih _ (by have := (h.up (by omega) hi).2; omega)]
end Go.Proofs.YtegbaocpacbljaaDoor.arena
