/- What the rows of this seat list as laid by the program's text gives the walks: the decoder's two tables, the table of the variables that there are always; and a world that holds them, for the rows' witnesses. -/
import Derived.Test.YtafopoacnngaeaaDoorRows
import Derived.Test.YtafopoacnngaeaaDoorSbRow
import Derived.Test.YtafopoacnngaeaaDoorSbSpeaks
import Derived.Deep.Strs
import Derived.Lib.LaidU8T
import Derived.LaidHandle
import Derived.LaidLaws
namespace Go.Proofs.YtafopoacnngaeaaDoor.laid
open Go.RowKit Go.Lib Go.Proofs.YtafopoacnngaeaaDoor.errs Go.Proofs.YtafopoacnngaeaaDoor.utf Go.Proofs.YtafopoacnngaeaaDoor.subst

/-- The rows' list. -/
def list : List (String × DataW Unit) := [("unicode/utf8.acceptRanges", Rows.laid_unicode_utf8_acceptRanges), ("waybill/subst.classes", Rows.laid_waybill_subst_classes), ("unicode/utf8.first", Rows.laid_unicode_utf8_first)]
theorem parts {W : World} (h : laidMetH Tryd.prog list W) : laidMet Tryd.prog list W := h

def ren : Go.Shelf.Ren := ⟨fun n => n, fun | 5 => 5 | 119 => 96 | 138 => 99 | 139 => 100 | n => n, fun | 3 => 1 | 4 => 2 | n => n⟩
theorem types : U8Types Tryd.prog ren := { t5 := Tryd.underlying5, t119 := Tryd.underlying96, t138 := Tryd.underlying99, t139 := Tryd.underlying100 }
theorem extra : U8Extra Tryd.prog ren := { n3 := by kernel_rfl, n4 := by kernel_rfl, y3 := by kernel_rfl, y4 := by kernel_rfl, c5 := by kernel_rfl, c119 := by kernel_rfl, c138 := by kernel_rfl }
theorem firstIs : Rows.laid_unicode_utf8_first = firstData := by kernel_rfl
theorem acceptIs : (Rows.laid_unicode_utf8_acceptRanges : DataW Unit) = acceptData := by kernel_rfl
theorem tabs {W : World} (h : laidMetH Tryd.prog list W) : Tabs W := by
  have h1 := parts h
  refine utf8Tabs_of_readsT types extra ?_ ?_
  · rw [← firstIs]; exact laidMet.reads h1 (List.mem_cons_of_mem _ (List.mem_cons_of_mem _ (List.mem_singleton.2 rfl)))
  · rw [← acceptIs]; exact laidMet.reads h1 (List.mem_cons_self ..)

theorem className : Tryd.prog.globalNamed "waybill/subst.classes" = some 0 := by kernel_rfl
theorem classType : (Tryd.prog.globals[0]?).map (·.type) = some 88 := by kernel_rfl
theorem classCells : Tryd.prog.cellsOf 65 = 3 := by kernel_rfl
theorem textCells : Tryd.prog.cellsOf 9 = 1 := by kernel_rfl
theorem intCells : Tryd.prog.cellsOf 3 = 1 := by kernel_rfl
/-- A variable of the table, as a row lists it. -/
def clData (c : Cl) : DataW Unit := .agg [.lit (.string c.name), .lit (.string c.spans), .lit (.int .i64 (c.size : Int))]
theorem classIs : (Rows.laid_waybill_subst_classes : DataW Unit) = .agg (clTab.map clData) := by kernel_rfl
theorem three {α : Type} : ∀ {l : List α}, l.length = 3 → ∃ a b c, l = [a, b, c]
  | [a, b, c], _ => ⟨a, b, c, rfl⟩
/-- A variable that reads so holds it, cell for cell. -/
theorem cells_of_cl {W : World} {fuel : Nat} {cs : List Value} {c : Cl} {q : List MemPlace} (h : DataW.trod (fun _ => ()) Tryd.prog W 0 (fun _ => true) false fuel 65 cs = some (clData c, q)) : cs = c.cells := by
  obtain ⟨y0, y1, y2, n, hx, hl, h0, h1, h2⟩ := Go.Deep.trod_struct3 Tryd.underlying65 h
  simp only [clData, Prod.mk.injEq, DataW.agg.injEq, List.cons.injEq, and_true] at hx
  obtain ⟨⟨e0, e1, e2⟩, -⟩ := hx
  obtain ⟨s0, c0, x0, -⟩ := DataW.trod_string Tryd.underlying9 h0
  obtain ⟨s1, c1, x1, -⟩ := DataW.trod_string Tryd.underlying9 h1
  obtain ⟨n2, c2, x2, -⟩ := DataW.trod_int Tryd.underlying3 h2
  subst x0; subst x1; subst x2
  simp only [DataW.lit.injEq, Lit.string.injEq, Lit.int.injEq, true_and] at e0 e1 e2
  rw [textCells] at c0 c1
  rw [intCells] at c2
  rw [classCells] at hl
  have l0 := congrArg (fun l => l[0]?) c0
  have l1 := congrArg (fun l => l[0]?) c1
  have l2 := congrArg (fun l => l[0]?) c2
  have n0 : T c.name = s0 := by rw [e0]; rfl
  have n1 : T c.spans = s1 := by rw [e1]; rfl
  unfold Cl.cells
  rw [n0, n1, e2]
  obtain ⟨u0, u1, u2, rfl⟩ := three hl
  simp at l0 l1 l2
  rw [l0, l1, l2]
theorem classes {W : World} (h : laidMetH Tryd.prog list W) : Clss W := by
  have hr := laidMet.reads (parts h) (n := "waybill/subst.classes") (d := Rows.laid_waybill_subst_classes) (List.mem_cons_of_mem _ (List.mem_cons_self ..))
  obtain ⟨g, t, cs, fuel, p, hg, hty, hvar, hd⟩ := hr
  obtain rfl := Option.some.inj (className.symm.trans hg)
  obtain rfl := Option.some.inj (classType.symm.trans hty)
  rw [classIs] at hd
  have key : ∀ k, k < 8 → ∀ c, clTab[k]? = some c → ∀ j v, c.cells[j]? = some v → cs[k * 3 + j]? = some v := fun k hk c hc j v hv => by
    obtain ⟨fuel', d, q, hdi, he⟩ := array_elem Tryd.underlying88 hd k hk
    rw [List.getElem?_map, hc] at hdi
    obtain rfl := Option.some.inj hdi
    rw [classCells] at he
    have e := cells_of_cl he
    have hj : j < 3 := by
      have := (List.getElem?_eq_some_iff.1 hv).1
      simpa [Cl.cells] using this
    rw [← e, List.getElem?_take_of_lt hj, List.getElem?_drop] at hv
    rw [← Array.getElem?_toList]
    exact hv
  intro i v hv
  have h24 : i < 24 := by
    have := (List.getElem?_eq_some_iff.1 hv).1
    simpa [clCells, clTab, Cl.cells] using this
  rw [World.var?_cell className hvar i]
  have hdiv : i / 3 < 8 := by omega
  have hlen : clTab.length = 8 := rfl
  have he := key (i / 3) hdiv (clTab.getD (i / 3) noCl) (by rw [List.getD_eq_getElem?_getD, List.getElem?_eq_getElem (by omega)]; rfl) (i % 3) v ?_
  · rw [show i / 3 * 3 + i % 3 = i by omega] at he
    exact he
  · have all : ∀ i, i < 24 → (clTab.getD (i / 3) noCl).cells[i % 3]? = clCells[i]? := by
      intro i hi
      match i, hi with
      | 0, _ | 1, _ | 2, _ | 3, _ | 4, _ | 5, _ | 6, _ | 7, _ | 8, _ | 9, _ | 10, _ | 11, _ | 12, _ | 13, _ | 14, _ | 15, _ | 16, _ | 17, _ | 18, _ | 19, _ | 20, _ | 21, _ | 22, _ | 23, _ => rfl
      | n + 24, h => omega
    rw [all i h24]
    exact hv

/-- A world that holds what is listed. -/
noncomputable def world (os : Os) : World :=
  let w0 := World.holding Tryd.prog os ⟨#[], #[], []⟩
  { w0 with heap := ((w0.heap.modify 1 fun
      | .cells _ t frozen => .cells (((List.range 256).map fun c => Value.int .u8 (firstT c)).toArray) t frozen
      | o => o).modify 2 fun
      | .cells _ t frozen => .cells (((List.range 16).flatMap fun i => [Value.int .u8 (accLo i), Value.int .u8 (accHi i)]).toArray) t frozen
      | o => o).modify 0 fun
      | .cells _ t frozen => .cells clCells.toArray t frozen
      | o => o }
theorem met (os : Os) (args : Array Value) : laidMetH Tryd.prog list ((world os).forCall (fun _ _ => 0) ⟨#[], args, []⟩).memory :=
  laidMet_of_run' 8 (by kernel_rfl) (by kernel_rfl)
theorem all {W : World} (h : laidMetH Tryd.prog list W) (hSh : W.ShapedOpen Tryd.prog) : Seat W := ⟨tabs h, Tryd.laysM145.s1_3 W hSh, classes h⟩
end Go.Proofs.YtafopoacnngaeaaDoor.laid
