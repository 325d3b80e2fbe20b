/- What the rows of this seat list as laid by the program's text gives the walks: the decoder's two tables; and a world that holds them, for the rows' witnesses. -/
import Derived.Test.YtjijdaheabgphaaDoorRows
import Derived.Test.YtjijdaheabgphaaDoorValid
import Derived.Lib.LaidU8T
import Derived.LaidHandle
import Derived.LaidLaws
namespace Go.Proofs.YtjijdaheabgphaaDoor.laidp
open Go.RowKit Go.Lib Go.Proofs.YtjijdaheabgphaaDoor.errs Go.Proofs.YtjijdaheabgphaaDoor.utf

/-- The rows' list. -/
def list : List (String × DataW Unit) := [("unicode/utf8.acceptRanges", Rows.laid_unicode_utf8_acceptRanges), ("unicode/utf8.first", Rows.laid_unicode_utf8_first)]
theorem parts {W : World} (h : laidMetH Tryd.prog list W) : laidMet Tryd.prog list W := h

def ren : Go.Shelf.Ren := ⟨fun n => n, fun | 5 => 5 | 119 => 114 | 138 => 116 | 139 => 117 | n => n, fun | 3 => 2 | 4 => 3 | n => n⟩
theorem types : U8Types Tryd.prog ren := { t5 := Tryd.underlying5, t119 := Tryd.underlying114, t138 := Tryd.underlying116, t139 := Tryd.underlying117 }
theorem extra : U8Extra Tryd.prog ren := { n3 := by kernel_rfl, n4 := by kernel_rfl, y3 := by kernel_rfl, y4 := by kernel_rfl, c5 := by kernel_rfl, c119 := by kernel_rfl, c138 := by kernel_rfl }
theorem firstIs : Rows.laid_unicode_utf8_first = firstData := by kernel_rfl
theorem acceptIs : (Rows.laid_unicode_utf8_acceptRanges : DataW Unit) = acceptData := by kernel_rfl
theorem tabs {W : World} (h : laidMetH Tryd.prog list W) : Tabs W := by
  have h1 := parts h
  refine utf8Tabs_of_readsT types extra ?_ ?_
  · rw [← firstIs]; exact laidMet.reads h1 (List.mem_cons_of_mem _ (List.mem_singleton.2 rfl))
  · rw [← acceptIs]; exact laidMet.reads h1 (List.mem_cons_self ..)

/-- A world that holds what is listed. -/
noncomputable def world (os : Os) : World :=
  let w0 := World.holding Tryd.prog os ⟨#[], #[], []⟩
  { w0 with heap := (w0.heap.modify 2 fun
      | .cells _ t frozen => .cells (((List.range 256).map fun c => Value.int .u8 (firstT c)).toArray) t frozen
      | o => o).modify 3 fun
      | .cells _ t frozen => .cells (((List.range 16).flatMap fun i => [Value.int .u8 (accLo i), Value.int .u8 (accHi i)]).toArray) t frozen
      | o => o }
theorem met (os : Os) (args : Array Value) : laidMetH Tryd.prog list ((world os).forCall (fun _ _ => 0) ⟨#[], args, []⟩).memory :=
  laidMet_of_run' 8 (by kernel_rfl) (by kernel_rfl)
theorem all {W : World} (h : laidMetH Tryd.prog list W) : Tabs W := tabs h
end Go.Proofs.YtjijdaheabgphaaDoor.laidp
