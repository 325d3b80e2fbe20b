/- What the rows of this seat list as laid by the program's text gives the walks: the words of the kinds and of the reasons; and a world that holds them, for the rows' witnesses. -/
import Derived.Test.YtmgdkdohadaknaaDoorRows
import Derived.Test.YtmgdkdohadaknaaDoorPkWords
import Derived.Deep.Strs
import Derived.Lib.LaidU8
import Derived.LaidHandle
import Derived.LaidLaws
namespace Go.Proofs.YtmgdkdohadaknaaDoor.laid
open Go.RowKit Go.Lib Go.Proofs.YtmgdkdohadaknaaDoor.errs Go.Proofs.YtmgdkdohadaknaaDoor.pick

/-- The rows' list. -/
def list : List (String × DataW Unit) := [("waybill/pick.kinds", Rows.laid_waybill_pick_kinds), ("waybill/pick.reasons", Rows.laid_waybill_pick_reasons)]
theorem parts {W : World} (h : laidMetH Tryd.prog list W) : laidMet Tryd.prog list W := h

theorem kindName : Tryd.prog.globalNamed "waybill/pick.kinds" = some 0 := by kernel_rfl
theorem kindType : (Tryd.prog.globals[0]?).map (·.type) = some 61 := by kernel_rfl
theorem reasonName : Tryd.prog.globalNamed "waybill/pick.reasons" = some 1 := by kernel_rfl
theorem reasonType : (Tryd.prog.globals[1]?).map (·.type) = some 62 := by kernel_rfl
theorem textCells : Tryd.prog.cellsOf 9 = 1 := by kernel_rfl
def txData (s : ByteArray) : DataW Unit := .lit (.string s.data.toList)
theorem kindIs : (Rows.laid_waybill_pick_kinds : DataW Unit) = .agg (kindTab.map txData) := by kernel_rfl
theorem reasonIs : (Rows.laid_waybill_pick_reasons : DataW Unit) = .agg (reasonTab.map txData) := by kernel_rfl
theorem cell_of_text {W : World} {fuel : Nat} {cs : List Value} {s : ByteArray} {q : List MemPlace} (h : DataW.trod (fun _ => ()) Tryd.prog W 0 (fun _ => true) false fuel 9 cs = some (txData s, q)) : cs = [.string s] := by
  obtain ⟨s0, c0, x0, -⟩ := DataW.trod_string Tryd.underlying9 h
  simp only [txData, Prod.mk.injEq] at x0
  obtain ⟨x0, -⟩ := x0
  simp only [DataW.lit.injEq, Lit.string.injEq] at x0
  have : s = s0 := ByteArray.ext (Array.ext' x0)
  rw [c0, this]
theorem kinds {W : World} (h : laidMetH Tryd.prog list W) : KTab W := by
  have hr := laidMet.reads (parts h) (n := "waybill/pick.kinds") (d := Rows.laid_waybill_pick_kinds) (List.mem_cons_self ..)
  obtain ⟨g, t, cs, fuel, p, hg, hty, hvar, hd⟩ := hr
  obtain rfl := Option.some.inj (kindName.symm.trans hg)
  obtain rfl := Option.some.inj (kindType.symm.trans hty)
  rw [kindIs] at hd
  intro i hi
  rw [World.var?_cell kindName hvar i]
  obtain ⟨fuel', d, q, hdi, he⟩ := array_elem Tryd.underlying61 hd i hi
  have hlen : kindTab.length = 5 := rfl
  rw [List.getElem?_map, List.getElem?_eq_getElem (by omega)] at hdi
  obtain rfl := Option.some.inj hdi
  rw [textCells, Nat.mul_one] at he
  have e := cell_of_text he
  have e0 := congrArg (fun l => l[0]?) e
  simp only [List.getElem?_cons_zero] at e0
  rw [List.getElem?_take_of_lt (by omega), List.getElem?_drop, Nat.add_zero, Array.getElem?_toList] at e0
  rw [e0, List.getD_eq_getElem?_getD, List.getElem?_eq_getElem (by omega)]
  rfl
theorem reasons {W : World} (h : laidMetH Tryd.prog list W) : RTab W := by
  have hr := laidMet.reads (parts h) (n := "waybill/pick.reasons") (d := Rows.laid_waybill_pick_reasons) (List.mem_cons_of_mem _ (List.mem_singleton.2 rfl))
  obtain ⟨g, t, cs, fuel, p, hg, hty, hvar, hd⟩ := hr
  obtain rfl := Option.some.inj (reasonName.symm.trans hg)
  obtain rfl := Option.some.inj (reasonType.symm.trans hty)
  rw [reasonIs] at hd
  intro i hi
  rw [World.var?_cell reasonName hvar i]
  obtain ⟨fuel', d, q, hdi, he⟩ := array_elem Tryd.underlying62 hd i hi
  have hlen : reasonTab.length = 10 := rfl
  rw [List.getElem?_map, List.getElem?_eq_getElem (by omega)] at hdi
  obtain rfl := Option.some.inj hdi
  rw [textCells, Nat.mul_one] at he
  have e := cell_of_text he
  have e0 := congrArg (fun l => l[0]?) e
  simp only [List.getElem?_cons_zero] at e0
  rw [List.getElem?_take_of_lt (by omega), List.getElem?_drop, Nat.add_zero, Array.getElem?_toList] at e0
  rw [e0, List.getD_eq_getElem?_getD, List.getElem?_eq_getElem (by omega)]
  rfl

/-- A world that holds what is listed. -/
noncomputable def world (os : Os) : World :=
  let w0 := World.holding Tryd.prog os ⟨#[], #[], []⟩
  { w0 with heap := (w0.heap.modify 0 fun
      | .cells _ t frozen => .cells (kindTab.map Value.string).toArray t frozen
      | o => o).modify 1 fun
      | .cells _ t frozen => .cells (reasonTab.map Value.string).toArray t frozen
      | o => o }
theorem met (os : Os) (args : Array Value) : laidMetH Tryd.prog list ((world os).forCall (fun _ _ => 0) ⟨#[], args, []⟩).memory :=
  laidMet_of_run' 8 (by kernel_rfl) (by kernel_rfl)
theorem all {W : World} (h : laidMetH Tryd.prog list W) : Tabs W := ⟨kinds h, reasons h⟩
end Go.Proofs.YtmgdkdohadaknaaDoor.laid
