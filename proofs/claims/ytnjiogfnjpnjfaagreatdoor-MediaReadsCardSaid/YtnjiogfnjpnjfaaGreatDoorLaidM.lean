/- What the rows of this seat list as laid by the program's text gives the walks: the decoder's two tables, the handle of the type error; and a world that holds them, for the rows' witnesses. -/
import Derived.Test.YtnjiogfnjpnjfaaGreatDoorRows
import Derived.Test.YtnjiogfnjpnjfaaGreatDoorCalm
import Derived.Lib.LaidU8T
import Derived.LaidHandle
import Derived.LaidLaws
namespace Go.Proofs.YtnjiogfnjpnjfaaGreatDoor.laid
open Go.RowKit Go.Lib Go.Proofs.YtnjiogfnjpnjfaaGreatDoor.errs

/-- The rows' list. -/
def list : List (String × DataW Unit) := [("unicode/utf8.acceptRanges", Rows.laid_unicode_utf8_acceptRanges), ("errors.errorType", Rows.laid_errors_errorType), ("unicode/utf8.first", Rows.laid_unicode_utf8_first)]
def plainList : List (String × DataW Unit) := [("unicode/utf8.acceptRanges", Rows.laid_unicode_utf8_acceptRanges), ("unicode/utf8.first", Rows.laid_unicode_utf8_first)]

theorem rtypeRow : (Tryz.prog.cutTypes.find? (·.1 == "internal/reflectlite.rtype")).map (·.2) = some 108 := by kernel_rfl
theorem errorRow : ((List.range 171).filter fun t => Tryz.prog.rowNamed t [101, 114, 114, 111, 114]) = [27] := by kernel_rfl
theorem typesSize : Tryz.prog.types.size = 171 := by kernel_rfl
theorem errorGlobal : Tryz.prog.globalNamed "errors.errorType" = some 0 := by kernel_rfl
theorem errorHandle : typeHandle Tryz.prog 27 = .pointer (some ⟨4, 27, none⟩) := by kernel_rfl

theorem parts {W : World} (h : laidMetH Tryz.prog list W) : laidMet Tryz.prog plainList W ∧ handlesMet Tryz.prog [("errors.errorType", Rows.laid_errors_errorType)] W := h

theorem handle {W : World} (h : laidMetH Tryz.prog list W) : Laid W := by
  obtain ⟨name, u, ty, e1, e2, e3, e4, e5⟩ := (parts h).2 _ (List.mem_singleton.2 rfl)
  have en : name = [101, 114, 114, 111, 114] := (Option.some.inj e1).symm
  subst en
  obtain rfl := Option.some.inj (rtypeRow.symm.trans e2)
  have hm : ty ∈ (List.range 171).filter fun t => Tryz.prog.rowNamed t [101, 114, 114, 111, 114] := List.mem_filter.2 ⟨List.mem_range.2 (by rw [← typesSize]; exact e3), e4⟩
  rw [errorRow] at hm
  obtain rfl := List.mem_singleton.1 hm
  rw [errorHandle] at e5
  have := World.var?_cell errorGlobal e5 0
  unfold Laid
  rw [this]
  rfl

/-- A world that holds what is listed. -/
noncomputable def world (os : Os) : World :=
  let w0 := World.holding Tryz.prog os ⟨#[], #[], []⟩
  { w0 with heap := ((w0.heap.modify 0 fun
      | .cells _ t frozen => .cells #[.iface 108 (.agg #[.pointer (some ⟨4, 27, none⟩)])] t frozen
      | o => o).modify 1 fun
      | .cells _ t frozen => .cells (((List.range 256).map fun c => Value.int .u8 (firstT c)).toArray) t frozen
      | o => o).modify 2 fun
      | .cells _ t frozen => .cells (((List.range 16).flatMap fun i => [Value.int .u8 (accLo i), Value.int .u8 (accHi i)]).toArray) t frozen
      | o => o }
theorem met (os : Os) (args : Array Value) : laidMetH Tryz.prog list ((world os).forCall (fun _ _ => 0) ⟨#[], args, []⟩).memory :=
  laidMetH_of_parts (laidMet_of_run' 8 (by kernel_rfl) (by kernel_rfl)) (by kernel_rfl)
theorem all {W : World} (h : laidMetH Tryz.prog list W) : Laid W := handle h
end Go.Proofs.YtnjiogfnjpnjfaaGreatDoor.laid
