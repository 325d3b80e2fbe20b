/- What the rows of this seat list as laid by the program's text gives the walks: the decoder's two tables, the handle of the type error, the table of the variables that there are always; and a world that holds them, for the rows' witnesses. -/
import Derived.Test.YtoilalffhmjhdaaGreatDoorRows
import Derived.Test.YtoilalffhmjhdaaGreatDoorSbRow
import Derived.Test.YtoilalffhmjhdaaGreatDoorSbSpeaks
import Derived.Deep.Strs
import Derived.Lib.LaidU8T
import Derived.LaidHandle
import Derived.LaidLaws
namespace Go.Proofs.YtoilalffhmjhdaaGreatDoor.laid
open Go.RowKit Go.Lib Go.Proofs.YtoilalffhmjhdaaGreatDoor.errs Go.Proofs.YtoilalffhmjhdaaGreatDoor.utf Go.Proofs.YtoilalffhmjhdaaGreatDoor.subst

/-- The rows' list. -/
def list : List (String × DataW Unit) := [("unicode/utf8.acceptRanges", Rows.laid_unicode_utf8_acceptRanges), ("errors.errorType", Rows.laid_errors_errorType), ("waybill/subst.classes", Rows.laid_waybill_subst_classes), ("unicode/utf8.first", Rows.laid_unicode_utf8_first)]
def plainList : List (String × DataW Unit) := [("unicode/utf8.acceptRanges", Rows.laid_unicode_utf8_acceptRanges), ("waybill/subst.classes", Rows.laid_waybill_subst_classes), ("unicode/utf8.first", Rows.laid_unicode_utf8_first)]

theorem rtypeRow : (Tryz.prog.cutTypes.find? (·.1 == "internal/reflectlite.rtype")).map (·.2) = some 122 := by kernel_rfl
theorem errorRow : ((List.range 195).filter fun t => Tryz.prog.rowNamed t [101, 114, 114, 111, 114]) = [28] := by kernel_rfl
theorem typesSize : Tryz.prog.types.size = 195 := by kernel_rfl
theorem errorGlobal : Tryz.prog.globalNamed "errors.errorType" = some 0 := by kernel_rfl
theorem errorHandle : typeHandle Tryz.prog 28 = .pointer (some ⟨5, 28, none⟩) := by kernel_rfl

theorem parts {W : World} (h : laidMetH Tryz.prog list W) : laidMet Tryz.prog plainList W ∧ handlesMet Tryz.prog [("errors.errorType", Rows.laid_errors_errorType)] W := h

theorem handle {W : World} (h : laidMetH Tryz.prog list W) : Laid W := by
  obtain ⟨name, u, ty, e1, e2, e3, e4, e5⟩ := (parts h).2 _ (List.mem_singleton.2 rfl)
  have en : name = [101, 114, 114, 111, 114] := (Option.some.inj e1).symm
  subst en
  obtain rfl := Option.some.inj (rtypeRow.symm.trans e2)
  have hm : ty ∈ (List.range 195).filter fun t => Tryz.prog.rowNamed t [101, 114, 114, 111, 114] := List.mem_filter.2 ⟨List.mem_range.2 (by rw [← typesSize]; exact e3), e4⟩
  rw [errorRow] at hm
  obtain rfl := List.mem_singleton.1 hm
  rw [errorHandle] at e5
  have := World.var?_cell errorGlobal e5 0
  unfold Laid
  rw [this]
  rfl


def ren : Go.Shelf.Ren := ⟨fun n => n, fun | 5 => 5 | 119 => 162 | 138 => 164 | 139 => 165 | n => n, fun | 3 => 3 | 4 => 4 | n => n⟩
theorem types : U8Types Tryz.prog ren := { t5 := Tryz.underlying5, t119 := Tryz.underlying162, t138 := Tryz.underlying164, t139 := Tryz.underlying165 }
theorem extra : U8Extra Tryz.prog ren := { n3 := by kernel_rfl, n4 := by kernel_rfl, y3 := by kernel_rfl, y4 := by kernel_rfl, c5 := by kernel_rfl, c119 := by kernel_rfl, c138 := by kernel_rfl }
theorem firstIs : Rows.laid_unicode_utf8_first = firstData := by kernel_rfl
theorem acceptIs : (Rows.laid_unicode_utf8_acceptRanges : DataW Unit) = acceptData := by kernel_rfl
theorem tabs {W : World} (h : laidMetH Tryz.prog list W) : Tabs W := by
  have h1 := (parts h).1
  refine utf8Tabs_of_readsT types extra ?_ ?_
  · rw [← firstIs]; exact laidMet.reads h1 (List.mem_cons_of_mem _ (List.mem_cons_of_mem _ (List.mem_singleton.2 rfl)))
  · rw [← acceptIs]; exact laidMet.reads h1 (List.mem_cons_self ..)

theorem className : Tryz.prog.globalNamed "waybill/subst.classes" = some 1 := by kernel_rfl
theorem classType : (Tryz.prog.globals[1]?).map (·.type) = some 113 := by kernel_rfl
theorem classCells : Tryz.prog.cellsOf 82 = 3 := by kernel_rfl
theorem textCells : Tryz.prog.cellsOf 9 = 1 := by kernel_rfl
theorem intCells : Tryz.prog.cellsOf 3 = 1 := by kernel_rfl
/-- A variable of the table, as a row lists it. -/
def clData (c : Cl) : DataW Unit := .agg [.lit (.string c.name), .lit (.string c.spans), .lit (.int .i64 (c.size : Int))]
theorem classIs : (Rows.laid_waybill_subst_classes : DataW Unit) = .agg (clTab.map clData) := by kernel_rfl
theorem three {α : Type} : ∀ {l : List α}, l.length = 3 → ∃ a b c, l = [a, b, c]
  | [a, b, c], _ => ⟨a, b, c, rfl⟩
/-- A variable that reads so holds it, cell for cell. -/
theorem cells_of_cl {W : World} {fuel : Nat} {cs : List Value} {c : Cl} {q : List MemPlace} (h : DataW.trod (fun _ => ()) Tryz.prog W 0 (fun _ => true) false fuel 82 cs = some (clData c, q)) : cs = c.cells := by
  obtain ⟨y0, y1, y2, n, hx, hl, h0, h1, h2⟩ := Go.Deep.trod_struct3 Tryz.underlying82 h
  simp only [clData, Prod.mk.injEq, DataW.agg.injEq, List.cons.injEq, and_true] at hx
  obtain ⟨⟨e0, e1, e2⟩, -⟩ := hx
  obtain ⟨s0, c0, x0, -⟩ := DataW.trod_string Tryz.underlying9 h0
  obtain ⟨s1, c1, x1, -⟩ := DataW.trod_string Tryz.underlying9 h1
  obtain ⟨n2, c2, x2, -⟩ := DataW.trod_int Tryz.underlying3 h2
  subst x0; subst x1; subst x2
  simp only [DataW.lit.injEq, Lit.string.injEq, Lit.int.injEq, true_and] at e0 e1 e2
  rw [textCells] at c0 c1
  rw [intCells] at c2
  rw [classCells] at hl
  have l0 := congrArg (fun l => l[0]?) c0
  have l1 := congrArg (fun l => l[0]?) c1
  have l2 := congrArg (fun l => l[0]?) c2
  have n0 : T c.name = s0 := by rw [e0]; rfl
  have n1 : T c.spans = s1 := by rw [e1]; rfl
  unfold Cl.cells
  rw [n0, n1, e2]
  obtain ⟨u0, u1, u2, rfl⟩ := three hl
  simp at l0 l1 l2
  rw [l0, l1, l2]
theorem classes {W : World} (h : laidMetH Tryz.prog list W) : Clss W := by
  have hr := laidMet.reads (parts h).1 (n := "waybill/subst.classes") (d := Rows.laid_waybill_subst_classes) (List.mem_cons_of_mem _ (List.mem_cons_self ..))
  obtain ⟨g, t, cs, fuel, p, hg, hty, hvar, hd⟩ := hr
  obtain rfl := Option.some.inj (className.symm.trans hg)
  obtain rfl := Option.some.inj (classType.symm.trans hty)
  rw [classIs] at hd
  have key : ∀ k, k < 8 → ∀ c, clTab[k]? = some c → ∀ j v, c.cells[j]? = some v → cs[k * 3 + j]? = some v := fun k hk c hc j v hv => by
    obtain ⟨fuel', d, q, hdi, he⟩ := array_elem Tryz.underlying113 hd k hk
    rw [List.getElem?_map, hc] at hdi
    obtain rfl := Option.some.inj hdi
    rw [classCells] at he
    have e := cells_of_cl he
    have hj : j < 3 := by
      have := (List.getElem?_eq_some_iff.1 hv).1
      simpa [Cl.cells] using this
    rw [← e, List.getElem?_take_of_lt hj, List.getElem?_drop] at hv
    rw [← Array.getElem?_toList]
    exact hv
  intro i v hv
  have h24 : i < 24 := by
    have := (List.getElem?_eq_some_iff.1 hv).1
    simpa [clCells, clTab, Cl.cells] using this
  rw [World.var?_cell className hvar i]
  have hdiv : i / 3 < 8 := by omega
  have hlen : clTab.length = 8 := rfl
  have he := key (i / 3) hdiv (clTab.getD (i / 3) noCl) (by rw [List.getD_eq_getElem?_getD, List.getElem?_eq_getElem (by omega)]; rfl) (i % 3) v ?_
  · rw [show i / 3 * 3 + i % 3 = i by omega] at he
    exact he
  · have all : ∀ i, i < 24 → (clTab.getD (i / 3) noCl).cells[i % 3]? = clCells[i]? := by
      intro i hi
      match i, hi with
      | 0, _ | 1, _ | 2, _ | 3, _ | 4, _ | 5, _ | 6, _ | 7, _ | 8, _ | 9, _ | 10, _ | 11, _ | 12, _ | 13, _ | 14, _ | 15, _ | 16, _ | 17, _ | 18, _ | 19, _ | 20, _ | 21, _ | 22, _ | 23, _ => rfl
      | n + 24, h => omega
    rw [all i h24]
    exact hv

/-- A world that holds what is listed. -/
noncomputable def world (os : Os) : World :=
  let w0 := World.holding Tryz.prog os ⟨#[], #[], []⟩
  { w0 with heap := (((w0.heap.modify 0 fun
      | .cells _ t frozen => .cells #[.iface 122 (.agg #[.pointer (some ⟨5, 28, none⟩)])] t frozen
      | o => o).modify 3 fun
      | .cells _ t frozen => .cells (((List.range 256).map fun c => Value.int .u8 (firstT c)).toArray) t frozen
      | o => o).modify 4 fun
      | .cells _ t frozen => .cells (((List.range 16).flatMap fun i => [Value.int .u8 (accLo i), Value.int .u8 (accHi i)]).toArray) t frozen
      | o => o).modify 1 fun
      | .cells _ t frozen => .cells clCells.toArray t frozen
      | o => o }
theorem met (os : Os) (args : Array Value) : laidMetH Tryz.prog list ((world os).forCall (fun _ _ => 0) ⟨#[], args, []⟩).memory :=
  laidMetH_of_parts (laidMet_of_run' 8 (by kernel_rfl) (by kernel_rfl)) (by kernel_rfl)
theorem all {W : World} (h : laidMetH Tryz.prog list W) (hSh : W.ShapedOpen Tryz.prog) : Seat W ∧ Laid W := ⟨⟨tabs h, Tryz.laysM145.s1_3 W hSh, classes h⟩, handle h⟩
end Go.Proofs.YtoilalffhmjhdaaGreatDoor.laid
