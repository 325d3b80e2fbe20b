/- Whether a candidate is ready, in the program and in the document; the three tests of whyNone. -/
import Derived.Test.YtmgdkdohadaknaaDoorPkRow
set_option linter.unusedSimpArgs false
set_option linter.unusedVariables false
namespace Go.Proofs.YtmgdkdohadaknaaDoor.pick
open Go.RowKit Go.Proofs.YtmgdkdohadaknaaDoor.errs

theorem ready_any (x : Cd) (w : World) : Calls Tryd.prog 9 #[.agg (arr x)] w fun e w' => e = .returned (.bool (ready x)) ∧ Below w.heap.size w w' := by
  obtain ⟨a, c, v, l, o⟩ := x
  unfold ready
  cases c <;> cases v <;> cases l <;> cases o <;>
  · go_enter Tryd.func9, Tryd.ntmps9
    go_wp2_with fail
    go_ret
    exact ⟨rfl, (Below.refl _ w).alloc (Nat.le_refl _) _⟩
theorem rready_any (x : Cd) (w : World) : Calls Tryd.prog 10 #[.agg (arr x)] w fun e w' => e = .returned (.bool (ready x)) ∧ Below w.heap.size w w' := by
  obtain ⟨a, c, v, l, o⟩ := x
  unfold ready
  cases c <;> cases v <;> cases l <;> cases o <;>
  · go_enter Tryd.func10, Tryd.ntmps10
    go_wp2_with fail
    go_ret
    exact ⟨rfl, (Below.refl _ w).alloc (Nat.le_refl _) _⟩
theorem off_any (x : Cd) (w : World) : Calls Tryd.prog 32 #[.agg (arr x)] w fun e w' => e = .returned (.bool (isOff x)) ∧ Below w.heap.size w w' := by
  obtain ⟨a, c, v, l, o⟩ := x
  unfold isOff
  cases c <;> cases v <;> cases l <;> cases o <;>
  · go_enter Tryd.func32, Tryd.ntmps32
    go_wp2_with fail
    go_ret
    exact ⟨rfl, (Below.refl _ w).alloc (Nat.le_refl _) _⟩
theorem rules_any (x : Cd) (w : World) : Calls Tryd.prog 33 #[.agg (arr x)] w fun e w' => e = .returned (.bool (isRules x)) ∧ Below w.heap.size w w' := by
  obtain ⟨a, c, v, l, o⟩ := x
  unfold isRules
  cases c <;> cases v <;>
  · go_enter Tryd.func33, Tryd.ntmps33
    go_wp2_with fail
    go_ret
    exact ⟨rfl, (Below.refl _ w).alloc (Nat.le_refl _) _⟩
theorem unknown_any (x : Cd) (w : World) : Calls Tryd.prog 34 #[.agg (arr x)] w fun e w' => e = .returned (.bool (isUnknown x)) ∧ Below w.heap.size w w' := by
  obtain ⟨a, c, v, l, o⟩ := x
  unfold isUnknown
  go_enter Tryd.func34, Tryd.ntmps34
  go_wp2_with fail
  go_ret
  exact ⟨rfl, (Below.refl _ w).alloc (Nat.le_refl _) _⟩
end Go.Proofs.YtmgdkdohadaknaaDoor.pick
