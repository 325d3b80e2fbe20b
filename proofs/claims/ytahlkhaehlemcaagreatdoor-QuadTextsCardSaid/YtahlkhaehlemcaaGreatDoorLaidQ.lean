/- What the rows of this seat list as laid by the program's text gives the walks: the handle of the type error, and the error of the range; and a world that holds all that is listed, for the rows' witnesses. -/
import Derived.Test.YtahlkhaehlemcaaGreatDoorRows
import Derived.Test.YtahlkhaehlemcaaGreatDoorQdSpeaks
import Derived.LaidHandle
import Derived.LaidLaws
import Derived.Stop.LaidErr
namespace Go.Proofs.YtahlkhaehlemcaaGreatDoor.laid
open Go.RowKit Go.Lib Go.Proofs.YtahlkhaehlemcaaGreatDoor.errs Go.Proofs.YtahlkhaehlemcaaGreatDoor.qparse Go.Proofs.YtahlkhaehlemcaaGreatDoor.qread

/-- The rows' list. -/
def list : List (String × DataW Unit) := [("math/bits.deBruijn32tab", Rows.laid_math_bits_deBruijn32tab), ("math/bits.deBruijn64tab", Rows.laid_math_bits_deBruijn64tab), ("internal/strconv.uint64pow10", Rows.laid_internal_strconv_uint64pow10), ("unicode/utf8.acceptRanges", Rows.laid_unicode_utf8_acceptRanges), ("errors.errorType", Rows.laid_errors_errorType), ("strconv.ErrRange", Rows.laid_strconv_ErrRange), ("strconv.ErrSyntax", Rows.laid_strconv_ErrSyntax), ("unicode/utf8.first", Rows.laid_unicode_utf8_first)]
def plainList : List (String × DataW Unit) := [("math/bits.deBruijn32tab", Rows.laid_math_bits_deBruijn32tab), ("math/bits.deBruijn64tab", Rows.laid_math_bits_deBruijn64tab), ("internal/strconv.uint64pow10", Rows.laid_internal_strconv_uint64pow10), ("unicode/utf8.acceptRanges", Rows.laid_unicode_utf8_acceptRanges), ("strconv.ErrRange", Rows.laid_strconv_ErrRange), ("strconv.ErrSyntax", Rows.laid_strconv_ErrSyntax), ("unicode/utf8.first", Rows.laid_unicode_utf8_first)]

theorem rtypeRow : (Tryz.prog.cutTypes.find? (·.1 == "internal/reflectlite.rtype")).map (·.2) = some 114 := by kernel_rfl
theorem errorRow : ((List.range 198).filter fun t => Tryz.prog.rowNamed t [101, 114, 114, 111, 114]) = [26] := by kernel_rfl
theorem typesSize : Tryz.prog.types.size = 198 := by kernel_rfl
theorem errorGlobal : Tryz.prog.globalNamed "errors.errorType" = some 0 := by kernel_rfl
theorem errorHandle : typeHandle Tryz.prog 26 = .pointer (some ⟨9, 26, none⟩) := by kernel_rfl

theorem parts {W : World} (h : laidMetH Tryz.prog list W) : laidMet Tryz.prog plainList W ∧ handlesMet Tryz.prog [("errors.errorType", Rows.laid_errors_errorType)] W := h

theorem handle {W : World} (h : laidMetH Tryz.prog list W) : Laid W := by
  obtain ⟨name, u, ty, e1, e2, e3, e4, e5⟩ := (parts h).2 _ (List.mem_singleton.2 rfl)
  have en : name = [101, 114, 114, 111, 114] := (Option.some.inj e1).symm
  subst en
  obtain rfl := Option.some.inj (rtypeRow.symm.trans e2)
  have hm : ty ∈ (List.range 198).filter fun t => Tryz.prog.rowNamed t [101, 114, 114, 111, 114] := List.mem_filter.2 ⟨List.mem_range.2 (by rw [← typesSize]; exact e3), e4⟩
  rw [errorRow] at hm
  obtain rfl := List.mem_singleton.1 hm
  rw [errorHandle] at e5
  have := World.var?_cell errorGlobal e5 0
  unfold Laid
  rw [this]
  rfl

theorem rangeGlobal : Tryz.prog.globalNamed "strconv.ErrRange" = some 3 := by kernel_rfl
theorem rangeType : (Tryz.prog.globals[3]?).map (·.type) = some 26 := by kernel_rfl
theorem starred : "*" ++ "errors.errorString" = "*errors.errorString" := by decide
theorem stringRow (u : TypeId) (h : Tryz.prog.typeName? 3 u = some "*errors.errorString") : u = 163 :=
  typeName_ptr_named (nm := "errors.errorString") (by rw [starred]; kernel_rfl) (by kernel_rfl) (by decide) u (by rw [starred]; exact h)
theorem stringCells : Tryz.prog.cellsOf 165 = 1 := by kernel_rfl
theorem textCells : Tryz.prog.cellsOf 9 = 1 := by kernel_rfl
theorem range {W : World} (h : laidMetH Tryz.prog list W) : RangeVar W := by
  obtain ⟨a, s, hv, -, -, -⟩ := laid_sentinel (parts h).1.tail.tail.tail.tail rangeGlobal rangeType Tryz.underlying26 stringRow Tryz.underlying163 Tryz.underlying165 rfl rfl Tryz.underlying9 stringCells textCells
  exact ⟨_, by simpa using World.var?_cell rangeGlobal hv 0, .inr ⟨_, _, rfl⟩⟩

/-- Numbers of a listed table, as a world's cells. -/
def numsOf : DataW Unit → List Value
  | .agg xs => xs.flatMap fun
    | .lit (.int k n) => [Value.int k n]
    | .agg ys => ys.map fun | .lit (.int k n) => Value.int k n | _ => undef
    | _ => []
  | _ => []
noncomputable def low : Nat := (World.holding Tryz.prog default ⟨#[], #[], []⟩).heap.size
/-- A world that holds what is listed. -/
noncomputable def world (os : Os) : World :=
  let w0 := World.holding Tryz.prog os ⟨#[.cells #[.string ⟨#[118, 97, 108, 117, 101, 32, 111, 117, 116, 32, 111, 102, 32, 114, 97, 110, 103, 101]⟩] 165, .cells #[.string ⟨#[105, 110, 118, 97, 108, 105, 100, 32, 115, 121, 110, 116, 97, 120]⟩] 165], #[], []⟩
  { w0 with heap := (((((((w0.heap.modify 0 fun
      | .cells _ t frozen => .cells #[.iface 114 (.agg #[.pointer (some ⟨9, 26, none⟩)])] t frozen
      | o => o).modify 5 fun
      | .cells _ t frozen => .cells (numsOf Rows.laid_unicode_utf8_first).toArray t frozen
      | o => o).modify 6 fun
      | .cells _ t frozen => .cells (numsOf Rows.laid_unicode_utf8_acceptRanges).toArray t frozen
      | o => o).modify 3 fun
      | .cells _ t frozen => .cells #[.iface 163 (.pointer (some ⟨low, 0, none⟩))] t frozen
      | o => o).modify 2 fun
      | .cells _ t frozen => .cells #[.iface 163 (.pointer (some ⟨low + 1, 0, none⟩))] t frozen
      | o => o).modify 4 fun
      | .cells _ t frozen => .cells (numsOf Rows.laid_internal_strconv_uint64pow10).toArray t frozen
      | o => o).modify 7 fun
      | .cells _ t frozen => .cells (numsOf Rows.laid_math_bits_deBruijn32tab).toArray t frozen
      | o => o).modify 8 fun
      | .cells _ t frozen => .cells (numsOf Rows.laid_math_bits_deBruijn64tab).toArray t frozen
      | o => o }
theorem met (os : Os) (args : Array Value) : laidMetH Tryz.prog list ((world os).forCall (fun _ _ => 0) ⟨#[], args, []⟩).memory :=
  laidMetH_of_parts (laidMet_of_run' 8 (by kernel_rfl) (by kernel_rfl)) (by kernel_rfl)
theorem all {W : World} (h : laidMetH Tryz.prog list W) : Lay W := ⟨handle h, range h⟩
end Go.Proofs.YtahlkhaehlemcaaGreatDoor.laid
