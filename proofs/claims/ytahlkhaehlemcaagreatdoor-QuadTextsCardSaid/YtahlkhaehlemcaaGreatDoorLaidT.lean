/- What the rows' list gives the walk of QuadTexts besides: the table of the powers of ten. -/
import Derived.Test.YtahlkhaehlemcaaGreatDoorLaidQ
import Derived.Test.YtahlkhaehlemcaaGreatDoorQtUint
import Derived.Lib.LaidTab
namespace Go.Proofs.YtahlkhaehlemcaaGreatDoor.laid
open Go.RowKit Go.Lib Go.Proofs.YtahlkhaehlemcaaGreatDoor.errs Go.Proofs.YtahlkhaehlemcaaGreatDoor.qparse Go.Proofs.YtahlkhaehlemcaaGreatDoor.qread

theorem powIs : (Rows.laid_internal_strconv_uint64pow10 : DataW Unit) = tabData .u64 pow10Tab := by kernel_rfl
theorem powType : (Tryz.prog.globals[4]?).map (·.type) = some 154 := by kernel_rfl
theorem pow {W : World} (h : laidMetH Tryz.prog list W) : qtext.Pow W := by
  have h1 := (parts h).1.tail.tail
  rw [powIs] at h1
  exact tabIs_of_head qtext.powGlobal powType Tryz.underlying154 Tryz.underlying41 (by kernel_rfl) (by kernel_rfl) h1
theorem all2 {W : World} (h : laidMetH Tryz.prog list W) : Lay W ∧ qtext.Pow W := ⟨all h, pow h⟩
end Go.Proofs.YtahlkhaehlemcaaGreatDoor.laid
