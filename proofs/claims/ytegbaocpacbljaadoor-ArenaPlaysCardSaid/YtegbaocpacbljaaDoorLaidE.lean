/- What the rows of this seat list as laid by the program's text gives the walks: the handle of the type error; and a world that holds it, for the rows' witnesses. -/
import Derived.Test.YtegbaocpacbljaaDoorRows
import Derived.Test.YtegbaocpacbljaaDoorKinds
import Derived.LaidHandle
import Derived.LaidLaws
namespace Go.Proofs.YtegbaocpacbljaaDoor.laid
open Go.RowKit Go.Lib Go.Proofs.YtegbaocpacbljaaDoor.errs

/-- The rows' list. -/
def list : List (String × DataW Unit) := [("errors.errorType", Rows.laid_errors_errorType)]
def plainList : List (String × DataW Unit) := []

theorem rtypeRow : (Tryd.prog.cutTypes.find? (·.1 == "internal/reflectlite.rtype")).map (·.2) = some 88 := by kernel_rfl
theorem errorRow : ((List.range 132).filter fun t => Tryd.prog.rowNamed t [101, 114, 114, 111, 114]) = [33] := by kernel_rfl
theorem typesSize : Tryd.prog.types.size = 132 := by kernel_rfl
theorem errorGlobal : Tryd.prog.globalNamed "errors.errorType" = some 0 := by kernel_rfl
theorem errorHandle : typeHandle Tryd.prog 33 = .pointer (some ⟨1, 33, none⟩) := by kernel_rfl

theorem parts {W : World} (h : laidMetH Tryd.prog list W) : laidMet Tryd.prog plainList W ∧ handlesMet Tryd.prog [("errors.errorType", Rows.laid_errors_errorType)] W := h

theorem handle {W : World} (h : laidMetH Tryd.prog list W) : Laid W := by
  obtain ⟨name, u, ty, e1, e2, e3, e4, e5⟩ := (parts h).2 _ (List.mem_singleton.2 rfl)
  have en : name = [101, 114, 114, 111, 114] := (Option.some.inj e1).symm
  subst en
  obtain rfl := Option.some.inj (rtypeRow.symm.trans e2)
  have hm : ty ∈ (List.range 132).filter fun t => Tryd.prog.rowNamed t [101, 114, 114, 111, 114] := List.mem_filter.2 ⟨List.mem_range.2 (by rw [← typesSize]; exact e3), e4⟩
  rw [errorRow] at hm
  obtain rfl := List.mem_singleton.1 hm
  rw [errorHandle] at e5
  have := World.var?_cell errorGlobal e5 0
  unfold Laid
  rw [this]
  rfl

/-- A world that holds what is listed. -/
noncomputable def world (os : Os) : World :=
  let w0 := World.holding Tryd.prog os ⟨#[], #[], []⟩
  { w0 with heap := w0.heap.modify 0 fun
      | .cells _ t frozen => .cells #[.iface 88 (.agg #[.pointer (some ⟨1, 33, none⟩)])] t frozen
      | o => o }
theorem met (os : Os) (args : Array Value) : laidMetH Tryd.prog list ((world os).forCall (fun _ _ => 0) ⟨#[], args, []⟩).memory :=
  laidMetH_of_parts (laidMet_of_run' 8 (by kernel_rfl) (by kernel_rfl)) (by kernel_rfl)
theorem all {W : World} (h : laidMetH Tryd.prog list W) : Laid W := handle h
end Go.Proofs.YtegbaocpacbljaaDoor.laid
