/- Blocks that hold kinds of content; worlds one behind the other. -/
import Derived.Test.YtnjiogfnjpnjfaaDoorMdRow
set_option linter.unusedSimpArgs false
set_option linter.unusedVariables false
namespace Go.Proofs.YtnjiogfnjpnjfaaDoor.media
open Go.RowKit Go.Proofs.YtnjiogfnjpnjfaaDoor.errs

/-- A block that holds a kind of content. -/
def Box (w : World) (g : Nat) (t u : ByteArray) (v : Value) : Prop := w.cell? ⟨g, 0, none⟩ = some (.string t) ∧ w.cell? ⟨g, 1, none⟩ = some (.string u) ∧ w.cell? ⟨g, 2, none⟩ = some v
theorem Box.new (w : World) (t u : ByteArray) (v : Value) (ty : TypeId) : Box (w.alloc (.cells #[.string t, .string u, v] ty)) w.heap.size t u v :=
  ⟨by rw [World.cell?_alloc_at _ _ _ _ rfl]; rfl, by rw [World.cell?_alloc_at _ _ _ _ rfl]; rfl, by rw [World.cell?_alloc_at _ _ _ _ rfl]; rfl⟩
theorem Box.below {w w' : World} {g : Nat} {t u : ByteArray} {v : Value} (h : Box w g t u v) (hb : Below w.heap.size w w') : Box w' g t u v :=
  ⟨(hb.cell (p := ⟨g, 0, none⟩) (lt_of_cell h.1)).trans h.1, (hb.cell (p := ⟨g, 1, none⟩) (lt_of_cell h.2.1)).trans h.2.1, (hb.cell (p := ⟨g, 2, none⟩) (lt_of_cell h.2.2)).trans h.2.2⟩
theorem up (w : World) (o : Obj) : Below w.heap.size w (w.alloc o) := (Below.refl _ _).alloc (Nat.le_refl _) _
theorem chain {a b c : World} (h1 : Below a.heap.size a b) (h2 : Below b.heap.size b c) : Below a.heap.size a c := h1.trans (h2.mono h1.size)
end Go.Proofs.YtnjiogfnjpnjfaaDoor.media
