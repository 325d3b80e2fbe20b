/- The document's own answers of layer 15, in small: whether two characters are one, what a pattern begins with. -/
import Derived.Test.YtelofhplpeeplaaDoorGlMath
import Derived.Test.YtelofhplpeeplaaDoorCalm
import Derived.Laws.Strings2
import Derived.Deep.LoopGhost
import Derived.Deep.QuietTactic
import Derived.BigQuiet
set_option linter.unusedSimpArgs false
set_option linter.unusedVariables false
namespace Go.Proofs.YtelofhplpeeplaaDoor.glref
open Go.RowKit Go.Proofs.YtelofhplpeeplaaDoor.errs Go.Proofs.YtelofhplpeeplaaDoor.gmath

theorem rsmall_any (n : Int) (h0 : 0 ≤ n) (h1 : n ≤ 255) (w : World) :
    Calls Tryd.prog 59 #[.int .u8 n] w fun e w' => e = .returned (.int .u8 (small n)) ∧ w = w' := by
  unfold small
  by_cases h : 65 ≤ n ∧ n ≤ 90
  · rw [if_pos h]
    obtain ⟨a1, a2⟩ := h
    go_enter Tryd.func59, Tryd.ntmps59
    go_wp2_with fail
    go_ret
    exact ⟨rfl, rfl⟩
  · rw [if_neg h]
    by_cases h2 : 65 ≤ n
    · have h3 : ¬ n ≤ 90 := fun q => h ⟨h2, q⟩
      clear h
      go_enter Tryd.func59, Tryd.ntmps59
      go_wp2_with fail
      go_ret
      exact ⟨rfl, rfl⟩
    · clear h
      go_enter Tryd.func59, Tryd.ntmps59
      go_wp2_with fail
      go_ret
      exact ⟨rfl, rfl⟩

end Go.Proofs.YtelofhplpeeplaaDoor.glref
