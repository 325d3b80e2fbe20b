/- The bias behind a number: puny.Adapt and the document's own Adapt give one plain function of numbers; the world stays. -/
import Derived.Test.YthkpkohgefikeaaProg
import Derived.WalkKit
import Derived.BigQuiet
import Derived.Deep.QuietTactic
import Derived.Deep.LoopGhost
import Derived.Outline
import Derived.Lib.Hide
set_option linter.unusedSimpArgs false
set_option linter.unusedVariables false
namespace Go.Proofs.Ythkpkohgefikeaa.puny
open Go.RowKit

/-- As long as it is above 455 a number is divided by 35, and k is 36 more. -/
def shrink (d k : Nat) : Nat × Nat := if 455 < d then shrink (d / 35) (k + 36) else (d, k)
termination_by d
decreasing_by omega
theorem shrink_more {d : Nat} (k : Nat) (h : 455 < d) : shrink d k = shrink (d / 35) (k + 36) := by rw [shrink, if_pos h]
theorem shrink_done {d : Nat} (k : Nat) (h : ¬ 455 < d) : shrink d k = (d, k) := by rw [shrink, if_neg h]
def share (delta : Nat) (first : Bool) : Nat := if first then delta / 700 else delta / 2
def biasOf (delta count : Nat) (first : Bool) : Nat :=
  (shrink (share delta first + share delta first / count) 0).2 + 36 * (shrink (share delta first + share delta first / count) 0).1 / ((shrink (share delta first + share delta first / count) 0).1 + 38)
def adapt (delta count : Int) (first : Bool) : Int := if delta < 0 ∨ count < 1 then 0 else biasOf delta.toNat count.toNat first

theorem ret_val {a b : Int} (h : a = b) : Value.int .i64 a = .int .i64 b := by rw [h]
theorem quot_small (d : Nat) (h : d ≤ 455) : (0 : Int) ≤ 36 * (d : Int) / ((d : Int) + 38) ∧ 36 * (d : Int) / ((d : Int) + 38) ≤ 16380 := by
  rw [show 36 * (d : Int) / ((d : Int) + 38) = ((36 * d / (d + 38) : Nat) : Int) by rw [Int.natCast_ediv]; simp]
  have := Nat.div_le_self (36 * d) (d + 38)
  generalize 36 * d / (d + 38) = q at *
  omega
theorem ret_of {a b : Int} (h : a = b) : Ending.returned (.int .i64 a) = .returned (.int .i64 b) := by rw [h]

/-- puny.Adapt, for every number up to 2^40. -/
theorem adapt_any (delta count : Int) (first : Bool) (w : World) (hd : delta ≤ 1099511627776) :
    Calls Try.prog 5 #[.int .i64 delta, .int .i64 count, .bool first] w fun e w' => e = .returned (.int .i64 (adapt delta count first)) ∧ w = w' := by
  by_cases h0 : delta < 0
  · have e : adapt delta count first = 0 := if_pos (Or.inl h0)
    rw [e]
    go_enter Try.func5, Try.ntmps5
    go_wp2
    go_ret
    exact ⟨rfl, rfl⟩
  by_cases h1 : count < 1
  · have e : adapt delta count first = 0 := if_pos (Or.inr h1)
    rw [e]
    go_enter Try.func5, Try.ntmps5
    go_wp2
    go_ret
    exact ⟨rfl, rfl⟩
  obtain ⟨D, rfl⟩ : ∃ D : Nat, delta = D := ⟨delta.toNat, by omega⟩
  obtain ⟨C, rfl⟩ : ∃ C : Nat, count = C := ⟨count.toNat, by omega⟩
  obtain ⟨d0, e0⟩ : ∃ d0, Hid (share D first = d0) := ⟨_, rfl⟩
  obtain ⟨R, hR⟩ : ∃ R, Hid (shrink (d0 + d0 / C) 0 = R) := ⟨_, rfl⟩
  have hres : Hid (adapt D C first = ((R.2 + 36 * R.1 / (R.1 + 38) : Nat) : Int)) := by
    show adapt D C first = _
    unfold adapt biasOf
    rw [if_neg (by omega)]
    simp only [Int.toNat_natCast]
    rw [e0.out, hR.out]
  rw [hres.out]
  have hq : d0 / C ≤ d0 := Nat.div_le_self _ _
  have hb : d0 ≤ D := by
    rw [← e0.out]; unfold share; split <;> omega
  have hst : ∀ x : Int, x = (d0 : Int) → wrap64 (x + x / (C : Int)) = ((d0 + d0 / C : Nat) : Int) := by
    rintro x rfl
    rw [IntWalk.wrap64_in _ ⟨by have := Int.ediv_nonneg (a := (d0 : Int)) (b := (C : Int)) (by omega) (by omega); omega, by rw [← Int.natCast_ediv]; omega⟩, Int.natCast_add, Int.natCast_ediv]
  have hF : first = true → d0 = D / 700 := fun h => by rw [← e0.out, h]; rfl
  have hF2 : first = false → d0 = D / 2 := fun h => by rw [← e0.out, h]; rfl
  clear e0 hres
  cases first
  · obtain rfl := hF2 rfl
    clear hF hF2
    go_enter Try.func5, Try.ntmps5
    go_wp2
    go_loopg [0, 7] (D / 2 + D / 2 / C) (fun g t s wr => ∃ d k : Nat, t = .int .i64 d ∧ s = .int .i64 k ∧ g = d ∧ Aside (wr = w ∧ shrink d k = R ∧ d + k ≤ 2199023255552))
    case atStart => exact ⟨_, 0, by go_num, rfl, rfl, rfl, hR.out, by omega⟩
    case round =>
      obtain ⟨d, k, rfl, rfl, hg, hA⟩ := hrel
      obtain rfl := hA.out.1
      have hk := hA.out.2.2
      by_cases h5 : 455 < d
      · have hs : Aside (shrink (d / 35) (k + 36) = R) := (shrink_more k h5).symm.trans hA.out.2.1
        go_wp2
        go_roundg (d / 35)
        case measure => omega
        case rel => exact ⟨d / 35, k + 36, by go_num, by go_num, rfl, rfl, hs.out, by omega⟩
      · have hs : Aside ((d, k) = R) := (shrink_done k h5).symm.trans hA.out.2.1
        have hz := quot_small d (by omega)
        have hz1 := hz.1
        have hz2 := hz.2
        clear hz
        go_wp2
        go_ret
        refine ⟨ret_of ?_, rfl⟩
        rw [← hs.out]
  · obtain rfl := hF rfl
    clear hF hF2
    go_enter Try.func5, Try.ntmps5
    go_wp2
    go_loopg [0, 7] (D / 700 + D / 700 / C) (fun g t s wr => ∃ d k : Nat, t = .int .i64 d ∧ s = .int .i64 k ∧ g = d ∧ Aside (wr = w ∧ shrink d k = R ∧ d + k ≤ 2199023255552))
    case atStart => exact ⟨_, 0, by go_num, rfl, rfl, rfl, hR.out, by omega⟩
    case round =>
      obtain ⟨d, k, rfl, rfl, hg, hA⟩ := hrel
      obtain rfl := hA.out.1
      have hk := hA.out.2.2
      by_cases h5 : 455 < d
      · have hs : Aside (shrink (d / 35) (k + 36) = R) := (shrink_more k h5).symm.trans hA.out.2.1
        go_wp2
        go_roundg (d / 35)
        case measure => omega
        case rel => exact ⟨d / 35, k + 36, by go_num, by go_num, rfl, rfl, hs.out, by omega⟩
      · have hs : Aside ((d, k) = R) := (shrink_done k h5).symm.trans hA.out.2.1
        have hz := quot_small d (by omega)
        have hz1 := hz.1
        have hz2 := hz.2
        clear hz
        go_wp2
        go_ret
        refine ⟨ret_of ?_, rfl⟩
        rw [← hs.out]
/-- The document's own. -/
theorem radapt_any (delta count : Int) (first : Bool) (w : World) (hd : delta ≤ 1099511627776) :
    Calls Try.prog 6 #[.int .i64 delta, .int .i64 count, .bool first] w fun e w' => e = .returned (.int .i64 (adapt delta count first)) ∧ w = w' := by
  by_cases h0 : delta < 0
  · have e : adapt delta count first = 0 := if_pos (Or.inl h0)
    rw [e]
    go_enter Try.func6, Try.ntmps6
    go_wp2
    go_ret
    exact ⟨rfl, rfl⟩
  by_cases h1 : count < 1
  · have e : adapt delta count first = 0 := if_pos (Or.inr h1)
    rw [e]
    go_enter Try.func6, Try.ntmps6
    go_wp2
    go_ret
    exact ⟨rfl, rfl⟩
  obtain ⟨D, rfl⟩ : ∃ D : Nat, delta = D := ⟨delta.toNat, by omega⟩
  obtain ⟨C, rfl⟩ : ∃ C : Nat, count = C := ⟨count.toNat, by omega⟩
  obtain ⟨d0, e0⟩ : ∃ d0, Hid (share D first = d0) := ⟨_, rfl⟩
  obtain ⟨R, hR⟩ : ∃ R, Hid (shrink (d0 + d0 / C) 0 = R) := ⟨_, rfl⟩
  have hres : Hid (adapt D C first = ((R.2 + 36 * R.1 / (R.1 + 38) : Nat) : Int)) := by
    show adapt D C first = _
    unfold adapt biasOf
    rw [if_neg (by omega)]
    simp only [Int.toNat_natCast]
    rw [e0.out, hR.out]
  rw [hres.out]
  have hq : d0 / C ≤ d0 := Nat.div_le_self _ _
  have hb : d0 ≤ D := by
    rw [← e0.out]; unfold share; split <;> omega
  have hst : ∀ x : Int, x = (d0 : Int) → wrap64 (x + x / (C : Int)) = ((d0 + d0 / C : Nat) : Int) := by
    rintro x rfl
    rw [IntWalk.wrap64_in _ ⟨by have := Int.ediv_nonneg (a := (d0 : Int)) (b := (C : Int)) (by omega) (by omega); omega, by rw [← Int.natCast_ediv]; omega⟩, Int.natCast_add, Int.natCast_ediv]
  have hF : first = true → d0 = D / 700 := fun h => by rw [← e0.out, h]; rfl
  have hF2 : first = false → d0 = D / 2 := fun h => by rw [← e0.out, h]; rfl
  clear e0 hres
  cases first
  · obtain rfl := hF2 rfl
    clear hF hF2
    go_enter Try.func6, Try.ntmps6
    go_wp2
    go_loopg [7, 8] (D / 2 + D / 2 / C) (fun g t s wr => ∃ d k : Nat, t = .int .i64 d ∧ s = .int .i64 k ∧ g = d ∧ Aside (wr = w ∧ shrink d k = R ∧ d + k ≤ 2199023255552))
    case atStart => exact ⟨_, 0, by go_num, rfl, rfl, rfl, hR.out, by omega⟩
    case round =>
      obtain ⟨d, k, rfl, rfl, hg, hA⟩ := hrel
      obtain rfl := hA.out.1
      have hk := hA.out.2.2
      by_cases h5 : 455 < d
      · have hs : Aside (shrink (d / 35) (k + 36) = R) := (shrink_more k h5).symm.trans hA.out.2.1
        go_wp2
        go_roundg (d / 35)
        case measure => omega
        case rel => exact ⟨d / 35, k + 36, by go_num, by go_num, rfl, rfl, hs.out, by omega⟩
      · have hs : Aside ((d, k) = R) := (shrink_done k h5).symm.trans hA.out.2.1
        have hz := quot_small d (by omega)
        have hz1 := hz.1
        have hz2 := hz.2
        clear hz
        go_wp2
        go_ret
        refine ⟨ret_of ?_, rfl⟩
        rw [← hs.out]
  · obtain rfl := hF rfl
    clear hF hF2
    go_enter Try.func6, Try.ntmps6
    go_wp2
    go_loopg [7, 8] (D / 700 + D / 700 / C) (fun g t s wr => ∃ d k : Nat, t = .int .i64 d ∧ s = .int .i64 k ∧ g = d ∧ Aside (wr = w ∧ shrink d k = R ∧ d + k ≤ 2199023255552))
    case atStart => exact ⟨_, 0, by go_num, rfl, rfl, rfl, hR.out, by omega⟩
    case round =>
      obtain ⟨d, k, rfl, rfl, hg, hA⟩ := hrel
      obtain rfl := hA.out.1
      have hk := hA.out.2.2
      by_cases h5 : 455 < d
      · have hs : Aside (shrink (d / 35) (k + 36) = R) := (shrink_more k h5).symm.trans hA.out.2.1
        go_wp2
        go_roundg (d / 35)
        case measure => omega
        case rel => exact ⟨d / 35, k + 36, by go_num, by go_num, rfl, rfl, hs.out, by omega⟩
      · have hs : Aside ((d, k) = R) := (shrink_done k h5).symm.trans hA.out.2.1
        have hz := quot_small d (by omega)
        have hz1 := hz.1
        have hz2 := hz.2
        clear hz
        go_wp2
        go_ret
        refine ⟨ret_of ?_, rfl⟩
        rw [← hs.out]
end Go.Proofs.Ythkpkohgefikeaa.puny
