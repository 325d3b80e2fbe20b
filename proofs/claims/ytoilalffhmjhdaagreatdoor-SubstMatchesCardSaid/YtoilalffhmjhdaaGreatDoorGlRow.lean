/- Rows of truths in memory. -/
import Derived.Test.YtoilalffhmjhdaaGreatDoorCalm
import Derived.Deep.OwnRows
import Derived.Lib.Hide
set_option linter.unusedSimpArgs false
set_option linter.unusedVariables false
namespace Go.Proofs.YtoilalffhmjhdaaGreatDoor.rows
open Go.RowKit Go.Proofs.YtoilalffhmjhdaaGreatDoor.errs

/-- A cell of a block, not frozen. -/
def Cel (w : World) (b o : Nat) (v : Value) : Prop := w.cell? ⟨b, o, none⟩ = some v ∧ w.frozen? ⟨b, o, none⟩ = false
theorem Cel.below {w w' : World} {b o : Nat} {v : Value} (h : Cel w b o v) (hb : Keeps w w') : Cel w' b o v :=
  ⟨(hb.cell (p := ⟨b, o, none⟩) (lt_of_cell h.1)).trans h.1, (hb.frozen (p := ⟨b, o, none⟩) (lt_of_cell h.1)).trans h.2⟩
theorem cel_set {w : World} {b o : Nat} {v : Value} (h : Cel w b o v) (x : Value) : Cel (w.setCell ⟨b, o, none⟩ x) b o x :=
  ⟨World.cell?_setCell_same' _ ⟨b, o, none⟩ x (by rw [h.1]; rfl), by rw [World.frozen?_setCell]; exact h.2⟩
theorem cel_far {w : World} {b o : Nat} {v : Value} (h : Cel w b o v) {p : Addr} (hp : p ≠ ⟨b, o, none⟩) (x : Value) : Cel (w.setCell p x) b o v :=
  ⟨(World.cell?_setCell_other _ _ _ _ hp).trans h.1, by rw [World.frozen?_setCell]; exact h.2⟩
theorem off_ne {b x y : Nat} (h : x ≠ y) : (⟨b, x, none⟩ : Addr) ≠ ⟨b, y, none⟩ := fun e => h (congrArg Addr.off e)
theorem adr_ne {b c x y : Nat} (h : b ≠ c) : (⟨b, x, none⟩ : Addr) ≠ ⟨c, y, none⟩ := fun e => h (congrArg Addr.block e)

/-- So many truths, from the block's beginning on. -/
def Row (w : World) (b n : Nat) (f : Nat → Bool) : Prop := ∀ k, k < n → Cel w b k (.bool (f k))
theorem Row.below {w w' : World} {b n : Nat} {f : Nat → Bool} (h : Row w b n f) (hb : Keeps w w') : Row w' b n f := fun k hk => (h k hk).below hb
theorem Row.congr {w : World} {b n : Nat} {f g : Nat → Bool} (h : Row w b n f) (e : ∀ k, k < n → f k = g k) : Row w b n g := fun k hk => by rw [← e k hk]; exact h k hk
theorem Row.far {w : World} {b n : Nat} {f : Nat → Bool} (h : Row w b n f) {c o : Nat} (hc : c ≠ b) (x : Value) : Row (w.setCell ⟨c, o, none⟩ x) b n f := fun k hk => cel_far (h k hk) (adr_ne hc) x
theorem Row.set {w : World} {b n : Nat} {f : Nat → Bool} (h : Row w b n f) {k : Nat} (hk : k < n) (x : Bool) : Row (w.setCell ⟨b, k, none⟩ (.bool x)) b n (fun j => if j = k then x else f j) := fun j hj => by
  by_cases e : j = k
  · subst e
    show Cel _ _ _ (.bool (if j = j then x else f j))
    rw [if_pos rfl]
    exact cel_set (h j hj) _
  · show Cel _ _ _ (.bool (if j = k then x else f j))
    rw [if_neg e]
    exact cel_far (h j hj) (off_ne (Ne.symm e)) _
theorem Row.lt {w : World} {b n : Nat} {f : Nat → Bool} (h : Row w b n f) (hn : 0 < n) : b < w.heap.size := lt_of_cell (h 0 hn).1

theorem infoBool : (Tryz.prog.info? 4).map (fun i => (i.zero, i.size, i.bytes)) = some (some (.bool false), 1, 1) := by kernel_rfl
/-- A new row. -/
def made (w : World) (n : Nat) : World := w.alloc (.cells (madeCells #[Value.bool false] n) 4)
theorem run_made (n : Nat) (hn : n ≤ 1000001) (w : World) : (Instr.makeSlice 75 (.int .i64 (n : Int)) (.int .i64 (n : Int))).run Tryz.prog w = .ok (.slice (some ⟨w.heap.size, 0, none⟩) n n) (made w n) :=
  run_make_row' 75 4 (.bool false) 1 Tryz.underlying75 infoBool rfl .i64 .i64 n (by omega) (by omega) w
theorem made_row (w : World) (n : Nat) : Row (made w n) w.heap.size n (fun _ => false) := fun k hk => by
  have hc : (madeCells #[Value.bool false] n)[k]? = some (.bool false) := by
    unfold madeCells
    rw [Array.getElem?_map, Array.getElem?_range, if_pos hk]
    show some ((#[Value.bool false] : Array Value)[k % 1]!) = _
    rw [Nat.mod_one]
    rfl
  exact ⟨by unfold made; rw [World.cell?_alloc_at _ _ _ _ rfl]; exact hc, by unfold made; rw [World.frozen?_alloc_at _ _ _ _ rfl]⟩
theorem made_below (w : World) (n : Nat) : Below w.heap.size w (made w n) := (Below.refl _ _).alloc (Nat.le_refl _) _
theorem made_size (w : World) (n : Nat) : (made w n).heap.size = w.heap.size + 1 := by unfold made; simp
end Go.Proofs.YtoilalffhmjhdaaGreatDoor.rows
