/- What the rows of this seat list as laid by the program's text gives the walks: the decoder's two tables, the handle of the type error; and a world that holds them, for the rows' witnesses. -/
import Derived.Test.YtelofhplpeeplaaDoorRows
import Derived.Test.YtelofhplpeeplaaDoorCalm
import Derived.Lib.LaidU8T
import Derived.LaidHandle
import Derived.LaidLaws
namespace Go.Proofs.YtelofhplpeeplaaDoor.laid
open Go.RowKit Go.Lib Go.Proofs.YtelofhplpeeplaaDoor.errs

/-- The rows' list. -/
def list : List (String × DataW Unit) := [("unicode/utf8.acceptRanges", Rows.laid_unicode_utf8_acceptRanges), ("errors.errorType", Rows.laid_errors_errorType), ("unicode/utf8.first", Rows.laid_unicode_utf8_first)]
def plainList : List (String × DataW Unit) := [("unicode/utf8.acceptRanges", Rows.laid_unicode_utf8_acceptRanges), ("unicode/utf8.first", Rows.laid_unicode_utf8_first)]

theorem rtypeRow : (Tryd.prog.cutTypes.find? (·.1 == "internal/reflectlite.rtype")).map (·.2) = some 107 := by kernel_rfl
theorem errorRow : ((List.range 195).filter fun t => Tryd.prog.rowNamed t [101, 114, 114, 111, 114]) = [28] := by kernel_rfl
theorem typesSize : Tryd.prog.types.size = 195 := by kernel_rfl
theorem errorGlobal : Tryd.prog.globalNamed "errors.errorType" = some 0 := by kernel_rfl
theorem errorHandle : typeHandle Tryd.prog 28 = .pointer (some ⟨4, 28, none⟩) := by kernel_rfl

theorem parts {W : World} (h : laidMetH Tryd.prog list W) : laidMet Tryd.prog plainList W ∧ handlesMet Tryd.prog [("errors.errorType", Rows.laid_errors_errorType)] W := h

theorem handle {W : World} (h : laidMetH Tryd.prog list W) : Laid W := by
  obtain ⟨name, u, ty, e1, e2, e3, e4, e5⟩ := (parts h).2 _ (List.mem_singleton.2 rfl)
  have en : name = [101, 114, 114, 111, 114] := (Option.some.inj e1).symm
  subst en
  obtain rfl := Option.some.inj (rtypeRow.symm.trans e2)
  have hm : ty ∈ (List.range 195).filter fun t => Tryd.prog.rowNamed t [101, 114, 114, 111, 114] := List.mem_filter.2 ⟨List.mem_range.2 (by rw [← typesSize]; exact e3), e4⟩
  rw [errorRow] at hm
  obtain rfl := List.mem_singleton.1 hm
  rw [errorHandle] at e5
  have := World.var?_cell errorGlobal e5 0
  unfold Laid
  rw [this]
  rfl

/-- A world that holds what is listed. -/
noncomputable def world (os : Os) : World :=
  let w0 := World.holding Tryd.prog os ⟨#[], #[], []⟩
  { w0 with heap := ((w0.heap.modify 0 fun
      | .cells _ t frozen => .cells #[.iface 107 (.agg #[.pointer (some ⟨4, 28, none⟩)])] t frozen
      | o => o).modify 1 fun
      | .cells _ t frozen => .cells (((List.range 256).map fun c => Value.int .u8 (firstT c)).toArray) t frozen
      | o => o).modify 2 fun
      | .cells _ t frozen => .cells (((List.range 16).flatMap fun i => [Value.int .u8 (accLo i), Value.int .u8 (accHi i)]).toArray) t frozen
      | o => o }
theorem met (os : Os) (args : Array Value) : laidMetH Tryd.prog list ((world os).forCall (fun _ _ => 0) ⟨#[], args, []⟩).memory :=
  laidMetH_of_parts (laidMet_of_run' 8 (by kernel_rfl) (by kernel_rfl)) (by kernel_rfl)
theorem all {W : World} (h : laidMetH Tryd.prog list W) : Laid W := handle h
end Go.Proofs.YtelofhplpeeplaaDoor.laid
