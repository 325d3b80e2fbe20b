/- The document's Text: the bytes of characters, or the place of the first number that is none. -/
import Derived.Test.YtafopoacnngaeaaDoorRef
import Derived.Test.YtafopoacnngaeaaDoorText
import Derived.Laws.OwnMore
set_option linter.unusedSimpArgs false
set_option linter.unusedVariables false
namespace Go.Proofs.YtafopoacnngaeaaDoor.ref
open Go.RowKit Go.Proofs.YtafopoacnngaeaaDoor.errs Go.Proofs.YtafopoacnngaeaaDoor.utf Go.Proofs.YtafopoacnngaeaaDoor.umath Go.Proofs.YtafopoacnngaeaaDoor.half Go.Proofs.YtafopoacnngaeaaDoor.text

/-- What the document's Text answers. -/
def RefTextOut (xs : List Int) (o : Option Nat) (w : World) (e : Ending) (w' : World) : Prop :=
  match o with
  | none => ∃ v, e = .returned (.tuple #[v, .int .i64 (-1)]) ∧ Aside (w'.ownsRow w.heap.size 5 1 v (upto xs xs.length).length (cellsOf (upto xs xs.length)) ∧ Below w.heap.size w w')
  | some i => ∃ v, e = .returned (.tuple #[v, .int .i64 i]) ∧ Below w.heap.size w w'

theorem infoByte : (Tryd.prog.info? 5).map (fun i => (i.zero, i.size, i.bytes)) = some (some (.int .u8 0), 1, 1) := by kernel_rfl

theorem put_new (W : World) (x : Int) (j : Nat) (u : Value) (h : (cellsOf (put x))[j]? = some u) : (W.alloc (.cells (cells (put x)) 5)).cell? ((⟨W.heap.size, 0, none⟩ : Addr).add j) = some u := by
  rw [show (Addr.add ⟨W.heap.size, 0, none⟩ j : Addr) = ⟨W.heap.size, j, none⟩ by simp [Addr.add]; exact fun h => h.symm, World.cell?_alloc_at _ _ _ _ rfl]
  simpa [cells, cellsOf] using h

end Go.Proofs.YtafopoacnngaeaaDoor.ref
