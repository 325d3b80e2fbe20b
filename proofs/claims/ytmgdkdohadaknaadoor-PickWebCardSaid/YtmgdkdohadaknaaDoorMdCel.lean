/- Cells of blocks. -/
import Derived.Test.YtmgdkdohadaknaaDoorCalm
import Derived.Deep.OwnRows
import Derived.Lib.Hide
set_option linter.unusedSimpArgs false
set_option linter.unusedVariables false
namespace Go.Proofs.YtmgdkdohadaknaaDoor.rows
open Go.RowKit Go.Proofs.YtmgdkdohadaknaaDoor.errs

/-- A cell of a block, not frozen. -/
def Cel (w : World) (b o : Nat) (v : Value) : Prop := w.cell? ⟨b, o, none⟩ = some v ∧ w.frozen? ⟨b, o, none⟩ = false
theorem Cel.below {w w' : World} {b o : Nat} {v : Value} (h : Cel w b o v) (hb : Keeps w w') : Cel w' b o v :=
  ⟨(hb.cell (p := ⟨b, o, none⟩) (lt_of_cell h.1)).trans h.1, (hb.frozen (p := ⟨b, o, none⟩) (lt_of_cell h.1)).trans h.2⟩
theorem cel_set {w : World} {b o : Nat} {v : Value} (h : Cel w b o v) (x : Value) : Cel (w.setCell ⟨b, o, none⟩ x) b o x :=
  ⟨World.cell?_setCell_same' _ ⟨b, o, none⟩ x (by rw [h.1]; rfl), by rw [World.frozen?_setCell]; exact h.2⟩
theorem cel_far {w : World} {b o : Nat} {v : Value} (h : Cel w b o v) {p : Addr} (hp : p ≠ ⟨b, o, none⟩) (x : Value) : Cel (w.setCell p x) b o v :=
  ⟨(World.cell?_setCell_other _ _ _ _ hp).trans h.1, by rw [World.frozen?_setCell]; exact h.2⟩
theorem off_ne {b x y : Nat} (h : x ≠ y) : (⟨b, x, none⟩ : Addr) ≠ ⟨b, y, none⟩ := fun e => h (congrArg Addr.off e)
theorem adr_ne {b c x y : Nat} (h : b ≠ c) : (⟨b, x, none⟩ : Addr) ≠ ⟨c, y, none⟩ := fun e => h (congrArg Addr.block e)
end Go.Proofs.YtmgdkdohadaknaaDoor.rows
