/- The document's own answers of layer 15, in small: whether two characters are one, what a pattern begins with. -/
import Derived.Test.YtoilalffhmjhdaaGreatDoorSbMath
import Derived.Test.YtoilalffhmjhdaaGreatDoorCalm
import Derived.Laws.Strings2
import Derived.Deep.LoopGhost
import Derived.Deep.QuietTactic
import Derived.BigQuiet
set_option linter.unusedSimpArgs false
set_option linter.unusedVariables false
namespace Go.Proofs.YtoilalffhmjhdaaGreatDoor.glref
open Go.RowKit Go.Proofs.YtoilalffhmjhdaaGreatDoor.errs Go.Proofs.YtoilalffhmjhdaaGreatDoor.gmath

theorem rsmall_any (n : Int) (h0 : 0 ≤ n) (h1 : n ≤ 255) (w : World) :
    Calls Tryz.prog 83 #[.int .u8 n] w fun e w' => e = .returned (.int .u8 (small n)) ∧ w = w' := by
  unfold small
  by_cases h : 65 ≤ n ∧ n ≤ 90
  · rw [if_pos h]
    obtain ⟨a1, a2⟩ := h
    go_enter Tryz.func83, Tryz.ntmps83
    go_wp2_with fail
    go_ret
    exact ⟨rfl, rfl⟩
  · rw [if_neg h]
    by_cases h2 : 65 ≤ n
    · have h3 : ¬ n ≤ 90 := fun q => h ⟨h2, q⟩
      clear h
      go_enter Tryz.func83, Tryz.ntmps83
      go_wp2_with fail
      go_ret
      exact ⟨rfl, rfl⟩
    · clear h
      go_enter Tryz.func83, Tryz.ntmps83
      go_wp2_with fail
      go_ret
      exact ⟨rfl, rfl⟩

set_option maxRecDepth 100000 in
theorem same_still (fold : Bool) (a b : Int) (ha : 0 ≤ a) (hb : 0 ≤ b) (w : World) :
    Calls Tryz.prog 90 #[.int .i64 a, .int .i64 b, .bool fold] w fun e w' => e = .returned (.bool (sameC fold a b)) ∧ w' = w := by
  unfold sameC
  cases fold with
  | false =>
    rw [if_pos (.inl rfl)]
    by_cases h : a = b
    · have he : (a == b) = true := beq_iff_eq.2 h
      rw [decide_eq_true h]
      clear h
      go_enter Tryz.func90, Tryz.ntmps90
      go_wp2_with fail
      go_ret
      exact ⟨rfl, rfl⟩
    · have he : (a == b) = false := beq_eq_false_iff_ne.2 h
      rw [decide_eq_false h]
      clear h
      go_enter Tryz.func90, Tryz.ntmps90
      go_wp2_with fail
      go_ret
      exact ⟨rfl, rfl⟩
  | true =>
    by_cases h1 : 127 < a
    · rw [if_pos (.inr (.inl h1))]
      by_cases h : a = b
      · have he : (a == b) = true := beq_iff_eq.2 h
        rw [decide_eq_true h]
        clear h
        go_enter Tryz.func90, Tryz.ntmps90
        go_wp2_with fail
        go_ret
        exact ⟨rfl, rfl⟩
      · have he : (a == b) = false := beq_eq_false_iff_ne.2 h
        rw [decide_eq_false h]
        clear h
        go_enter Tryz.func90, Tryz.ntmps90
        go_wp2_with fail
        go_ret
        exact ⟨rfl, rfl⟩
    · by_cases h2 : 127 < b
      · rw [if_pos (.inr (.inr h2))]
        by_cases h : a = b
        · have he : (a == b) = true := beq_iff_eq.2 h
          rw [decide_eq_true h]
          clear h
          go_enter Tryz.func90, Tryz.ntmps90
          go_wp2_with fail
          go_ret
          exact ⟨rfl, rfl⟩
        · have he : (a == b) = false := beq_eq_false_iff_ne.2 h
          rw [decide_eq_false h]
          clear h
          go_enter Tryz.func90, Tryz.ntmps90
          go_wp2_with fail
          go_ret
          exact ⟨rfl, rfl⟩
      · rw [if_neg (by simp; omega)]
        have S1 := fun w => rsmall_any a ha (by omega) w
        have S2 := fun w => rsmall_any b hb (by omega) w
        obtain ⟨x, hx⟩ : ∃ x, Hid (small a = x) := ⟨_, rfl⟩
        obtain ⟨y, hy⟩ : ∃ y, Hid (small b = y) := ⟨_, rfl⟩
        rw [hx.out] at S1 ⊢
        rw [hy.out] at S2 ⊢
        clear hx hy
        by_cases h : x = y
        · have he : (x == y) = true := beq_iff_eq.2 h
          rw [decide_eq_true h]
          clear h
          go_enter Tryz.func90, Tryz.ntmps90
          go_wp2_with (go_at_call 83; first | (with_reducible refine (S1 _).mono ?_; rintro e w' ⟨rfl, rfl⟩) | (with_reducible refine (S2 _).mono ?_; rintro e w' ⟨rfl, rfl⟩))
          go_ret
          exact ⟨rfl, rfl⟩
        · have he : (x == y) = false := beq_eq_false_iff_ne.2 h
          rw [decide_eq_false h]
          clear h
          go_enter Tryz.func90, Tryz.ntmps90
          go_wp2_with (go_at_call 83; first | (with_reducible refine (S1 _).mono ?_; rintro e w' ⟨rfl, rfl⟩) | (with_reducible refine (S2 _).mono ?_; rintro e w' ⟨rfl, rfl⟩))
          go_ret
          exact ⟨rfl, rfl⟩
theorem same_any (fold : Bool) (a b : Int) (ha : 0 ≤ a) (hb : 0 ≤ b) (w : World) :
    Calls Tryz.prog 90 #[.int .i64 a, .int .i64 b, .bool fold] w fun e w' => e = .returned (.bool (sameC fold a b)) ∧ Below w.heap.size w w' :=
  (same_still fold a b ha hb w).mono fun e w' ⟨h1, h2⟩ => ⟨h1, h2 ▸ Below.refl _ _⟩
end Go.Proofs.YtoilalffhmjhdaaGreatDoor.glref
