/- Blocks of cells that stand whole. -/
import Derived.Test.YtmgdkdohadaknaaDoorCalm
import Derived.Laws.AppendOwn
import Derived.Laws.OwnMore
set_option linter.unusedSimpArgs false
set_option linter.unusedVariables false
namespace Go.Proofs.YtmgdkdohadaknaaDoor.wire
open Go.RowKit Go.Proofs.YtmgdkdohadaknaaDoor.errs

/-- A block of cells. -/
def Blk (w : World) (g : Nat) (cs : Array Value) (ty : TypeId) : Prop := w.heap[g]? = some (.cells cs ty (0, 0))
theorem Blk.lt {w : World} {g : Nat} {cs : Array Value} {ty : TypeId} (h : Blk w g cs ty) : g < w.heap.size := (Array.getElem?_eq_some_iff.1 h).1
theorem Blk.below {B : Nat} {w w' : World} {g : Nat} {cs : Array Value} {ty : TypeId} (h : Blk w g cs ty) (hb : Below B w w') (hg : g < B) : Blk w' g cs ty := (hb.block g hg).trans h
theorem Blk.get {w : World} {g : Nat} {cs : Array Value} {ty : TypeId} (h : Blk w g cs ty) (i : Nat) : w.cell? ⟨g, i, none⟩ = cs[i]? := cell_of_row w g i cs ty (0, 0) h
theorem Blk.frz {w : World} {g : Nat} {cs : Array Value} {ty : TypeId} (h : Blk w g cs ty) (i : Nat) : w.frozen? ⟨g, i, none⟩ = false := frozen_of_row w g i cs ty h
theorem blk_new (w : World) (cs : Array Value) (ty : TypeId) : Blk (w.alloc (.cells cs ty)) w.heap.size cs ty := heap_alloc_new w _
theorem Blk.set {w : World} {g : Nat} {cs : Array Value} {ty : TypeId} (h : Blk w g cs ty) (i : Nat) (u : Value) : Blk (w.setCell ⟨g, i, none⟩ u) g (cs.setIfInBounds i u) ty := heap_setCell_same w g i cs ty u h
theorem Blk.other {w : World} {g : Nat} {cs : Array Value} {ty : TypeId} (h : Blk w g cs ty) (p : Addr) (hp : g ≠ p.block) (u : Value) : Blk (w.setCell p u) g cs ty := (heap_setCell_other w p g u hp).trans h
theorem Blk.alloc {w : World} {g : Nat} {cs : Array Value} {ty : TypeId} (h : Blk w g cs ty) (o : Obj) : Blk (w.alloc o) g cs ty := h.below ((Below.refl w.heap.size w).alloc (Nat.le_refl _) o) h.lt
theorem below_drawN {B : Nat} {a w : World} (h : Below B a w) (n : Nat) : Below B a (w.drewN n) := ⟨h.os, h.tape, h.output, h.size, h.block⟩
end Go.Proofs.YtmgdkdohadaknaaDoor.wire
