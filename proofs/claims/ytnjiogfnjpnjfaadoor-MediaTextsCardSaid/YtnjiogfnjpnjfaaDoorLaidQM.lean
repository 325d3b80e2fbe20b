/- What the rows of this seat list as laid by the program's text gives the walks: the decoder's two tables; and a world that holds them, for the rows' witnesses. -/
import Derived.Test.YtnjiogfnjpnjfaaDoorRows
import Derived.Test.YtnjiogfnjpnjfaaDoorCalm
import Derived.Lib.LaidU8T
import Derived.LaidHandle
import Derived.LaidLaws
namespace Go.Proofs.YtnjiogfnjpnjfaaDoor.laidp
open Go.RowKit Go.Lib Go.Proofs.YtnjiogfnjpnjfaaDoor.errs

/-- The rows' list. -/
def list : List (String × DataW Unit) := [("unicode/utf8.acceptRanges", Rows.laid_unicode_utf8_acceptRanges), ("unicode/utf8.first", Rows.laid_unicode_utf8_first)]
theorem parts {W : World} (h : laidMetH Tryd.prog list W) : laidMet Tryd.prog list W := h

/-- A world that holds what is listed. -/
noncomputable def world (os : Os) : World :=
  let w0 := World.holding Tryd.prog os ⟨#[], #[], []⟩
  { w0 with heap := (w0.heap.modify 2 fun
      | .cells _ t frozen => .cells (((List.range 256).map fun c => Value.int .u8 (firstT c)).toArray) t frozen
      | o => o).modify 3 fun
      | .cells _ t frozen => .cells (((List.range 16).flatMap fun i => [Value.int .u8 (accLo i), Value.int .u8 (accHi i)]).toArray) t frozen
      | o => o }
theorem met (os : Os) (args : Array Value) : laidMetH Tryd.prog list ((world os).forCall (fun _ _ => 0) ⟨#[], args, []⟩).memory :=
  laidMet_of_run' 8 (by kernel_rfl) (by kernel_rfl)
theorem all {W : World} (_ : laidMetH Tryd.prog list W) : True := trivial
end Go.Proofs.YtnjiogfnjpnjfaaDoor.laidp
