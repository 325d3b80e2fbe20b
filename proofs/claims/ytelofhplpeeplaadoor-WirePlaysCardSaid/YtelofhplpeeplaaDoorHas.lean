/- errors.Is and the statements' Has: whether a fault, or one that it came from, has a number is told. -/
import Derived.Test.YtelofhplpeeplaaDoorKinds
import Derived.Deep.LoopGhost
namespace Go.Proofs.YtelofhplpeeplaaDoor.errs
open Go.RowKit Go.Extern.Stop Go.Stop Go.Extern
set_option maxRecDepth 100000

theorem typeOfE (v : Value) (w : World) : (ReflectliteType.typeOf #[.iface 61 v]).run Tryd.prog w = .ok (.iface 107 (.agg #[.pointer (some ⟨4, 61, none⟩)])) w := by kernel_rfl
theorem methodComparable (h : Value) (w : World) : (Go.method 295 107 (.agg #[h]) "Comparable").run Tryd.prog w = .ok (126, .agg #[h]) w := by kernel_rfl
theorem methodUnwrap (a : Addr) (w : World) : (Go.method 295 65 (.pointer (some a)) "Unwrap").run Tryd.prog w = .ok (120, .pointer (some a)) w := by kernel_rfl

theorem assertErrno (n : Int) (w : World) : (Instr.typeAssert (.iface 61 (.int .i64 n)) 28 61 true).run Tryd.prog w = .ok (.tuple #[.int .i64 n, .bool true]) w := by kernel_rfl
theorem assertUnwrap (v : Value) (w : World) : (Instr.typeAssert (.iface 65 v) 28 115 true).run Tryd.prog w = .ok (.tuple #[.iface 65 v, .bool true]) w := by kernel_rfl

theorem unwrap_any (b : Nat) (inner : Value) (w : World) (h2 : w.cell? ⟨b, 2, none⟩ = some inner) :
    Calls Tryd.prog 120 #[.pointer (some ⟨b, 0, none⟩)] w fun e w' => e = .returned inner ∧ w = w' := by
  go_enter Tryd.func120, Tryd.ntmps120
  go_wp2
  go_ret
  exact ⟨rfl, rfl⟩

/-- The errors from one inward: their numbers, the outermost first. -/
inductive Chain (w : World) : List Int → Value → Prop where
  | nil : Chain w [] .nilIface
  | cons {b : Nat} {k a : Int} {inner : Value} {r : List Int} (h0 : w.cell? ⟨b, 0, none⟩ = some (.int .i64 k)) (h1 : w.cell? ⟨b, 1, none⟩ = some (.int .i64 a)) (h2 : w.cell? ⟨b, 2, none⟩ = some inner) (hr : Chain w r inner) :
      Chain w (k :: r) (.iface 65 (.pointer (some ⟨b, 0, none⟩)))

def tells (ks : List Int) (n : Int) : Bool := ks.any fun k => n == k

/-- The model's entry for (rtype).Comparable. -/
def comparableEntry : Array Value → Sem Value := ReflectliteType.method fun t => do Rtype.noPackHeld "Comparable" t; pure (.bool (← typeInfo t).comparable)
theorem comparableE (w : World) : (comparableEntry #[.agg #[.pointer (some ⟨4, 61, none⟩)]]).run Tryd.prog w = .ok (.bool true) w := by kernel_rfl

theorem eqOther (p : Option Addr) (n : Int) (w : World) : (binOp BinOp.eql 28 (.iface 65 (.pointer p)) (.iface 61 (.int .i64 n))).run Tryd.prog w = .ok (.bool false) w := by kernel_rfl

theorem tells_hit {k n : Int} (r : List Int) (h : (n == k) = true) : tells (k :: r) n = true := by simp [tells, h]
theorem tells_miss {k n : Int} (r : List Int) (h : (n == k) = false) : tells (k :: r) n = tells r n := by simp [tells, h]

theorem FaultAt.chain {w : World} {v inner : Value} {k a : Int} {r : List Int} (h : FaultAt w v k a inner) (hr : Chain w r inner) : Chain w (k :: r) v := by
  obtain ⟨b, rfl, h0, h1, h2⟩ := h
  exact .cons h0 h1 h2 hr
theorem Chain.kept {B : Nat} {w w' : World} {ks : List Int} {v : Value} (h : Chain w ks v) (hb : Below B w w') (hB : w.heap.size ≤ B) : Chain w' ks v := by
  induction h with
  | nil => exact .nil
  | @cons b k a inner r h0 h1 h2 hr ih =>
    have hl : b < B := Nat.lt_of_lt_of_le (lt_of_cell h0) hB
    exact .cons ((hb.cell (p := ⟨b, 0, none⟩) hl).trans h0) ((hb.cell (p := ⟨b, 1, none⟩) hl).trans h1) ((hb.cell (p := ⟨b, 2, none⟩) hl).trans h2) ih
end Go.Proofs.YtelofhplpeeplaaDoor.errs
