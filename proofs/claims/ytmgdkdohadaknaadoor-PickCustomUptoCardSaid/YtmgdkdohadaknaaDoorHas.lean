/- errors.Is and the statements' Has: whether a fault, or one that it came from, has a number is told. -/
import Derived.Test.YtmgdkdohadaknaaDoorKinds
import Derived.Deep.LoopGhost
namespace Go.Proofs.YtmgdkdohadaknaaDoor.errs
open Go.RowKit Go.Extern.Stop Go.Stop Go.Extern
set_option maxRecDepth 100000

theorem typeOfE (v : Value) (w : World) : (ReflectliteType.typeOf #[.iface 39 v]).run Tryd.prog w = .ok (.iface 73 (.agg #[.pointer (some ⟨2, 39, none⟩)])) w := by kernel_rfl
theorem methodComparable (h : Value) (w : World) : (Go.method 215 73 (.agg #[h]) "Comparable").run Tryd.prog w = .ok (67, .agg #[h]) w := by kernel_rfl
theorem methodIs (a : Addr) (w : World) : (Go.method 215 54 (.pointer (some a)) "Is").run Tryd.prog w = .ok (62, .pointer (some a)) w := by kernel_rfl
theorem methodUnwrap (a : Addr) (w : World) : (Go.method 215 54 (.pointer (some a)) "Unwrap").run Tryd.prog w = .ok (63, .pointer (some a)) w := by kernel_rfl

theorem assertErrno (n : Int) (w : World) : (Instr.typeAssert (.iface 39 (.int .i64 n)) 37 39 true).run Tryd.prog w = .ok (.tuple #[.int .i64 n, .bool true]) w := by kernel_rfl
theorem assertIs (v : Value) (w : World) : (Instr.typeAssert (.iface 54 v) 37 75 true).run Tryd.prog w = .ok (.tuple #[.iface 54 v, .bool true]) w := by kernel_rfl
theorem assertUnwrap (v : Value) (w : World) : (Instr.typeAssert (.iface 54 v) 37 78 true).run Tryd.prog w = .ok (.tuple #[.iface 54 v, .bool true]) w := by kernel_rfl

theorem faultIs_any (b : Nat) (k n : Int) (w : World) (h0 : w.cell? ⟨b, 0, none⟩ = some (.int .i64 k)) :
    Calls Tryd.prog 62 #[.pointer (some ⟨b, 0, none⟩), .iface 39 (.int .i64 n)] w fun e w' => e = .returned (.bool (n == k)) ∧ w = w' := by
  have A := assertErrno
  go_enter Tryd.func62, Tryd.ntmps62
  go_wp2
  go_ret
  exact ⟨rfl, rfl⟩
theorem unwrap_any (b : Nat) (inner : Value) (w : World) (h2 : w.cell? ⟨b, 2, none⟩ = some inner) :
    Calls Tryd.prog 63 #[.pointer (some ⟨b, 0, none⟩)] w fun e w' => e = .returned inner ∧ w = w' := by
  go_enter Tryd.func63, Tryd.ntmps63
  go_wp2
  go_ret
  exact ⟨rfl, rfl⟩

/-- The errors from one inward: their numbers, the outermost first. -/
inductive Chain (w : World) : List Int → Value → Prop where
  | nil : Chain w [] .nilIface
  | cons {b : Nat} {k a : Int} {inner : Value} {r : List Int} (h0 : w.cell? ⟨b, 0, none⟩ = some (.int .i64 k)) (h1 : w.cell? ⟨b, 1, none⟩ = some (.int .i64 a)) (h2 : w.cell? ⟨b, 2, none⟩ = some inner) (hr : Chain w r inner) :
      Chain w (k :: r) (.iface 54 (.pointer (some ⟨b, 0, none⟩)))

def tells (ks : List Int) (n : Int) : Bool := ks.any fun k => n == k

/-- The model's entry for (rtype).Comparable. -/
def comparableEntry : Array Value → Sem Value := ReflectliteType.method fun t => do Rtype.noPackHeld "Comparable" t; pure (.bool (← typeInfo t).comparable)
theorem comparableE (w : World) : (comparableEntry #[.agg #[.pointer (some ⟨2, 39, none⟩)]]).run Tryd.prog w = .ok (.bool true) w := by kernel_rfl

theorem eqOther (p : Option Addr) (n : Int) (w : World) : (binOp BinOp.eql 37 (.iface 54 (.pointer p)) (.iface 39 (.int .i64 n))).run Tryd.prog w = .ok (.bool false) w := by kernel_rfl

theorem tells_hit {k n : Int} (r : List Int) (h : (n == k) = true) : tells (k :: r) n = true := by simp [tells, h]
theorem tells_miss {k n : Int} (r : List Int) (h : (n == k) = false) : tells (k :: r) n = tells r n := by simp [tells, h]

set_option maxHeartbeats 1000000 in
theorem is_any (ks : List Int) (v : Value) (n : Int) (w : World) (hc : Chain w ks v) (hne : ks ≠ []) :
    Calls Tryd.prog 43 #[v, .iface 39 (.int .i64 n), .bool true] w fun e w' => e = .returned (.bool (tells ks n)) ∧ w = w' := by
  cases hc with
  | nil => exact absurd rfl hne
  | @cons b k a inner r h0 h1 h2 hr =>
  clear h1 hne
  have e1 := eqOther
  have m1 := methodIs
  have m2 := methodUnwrap
  have a1 := assertIs
  have a2 := assertUnwrap
  obtain ⟨t, ht⟩ : ∃ t, t = tells (k :: r) n := ⟨_, rfl⟩
  rw [← ht]
  go_enter Tryd.func43, Tryd.ntmps43
  go_wp2_with fail
  go_loopg [0] (r.length + 1) (fun g v wr => ∃ b k inner r, v = .iface 54 (.pointer (some ⟨b, 0, none⟩)) ∧ w.cell? ⟨b, 0, none⟩ = some (.int .i64 k) ∧ w.cell? ⟨b, 2, none⟩ = some inner ∧ Chain w r inner ∧ Hid (t = tells (k :: r) n) ∧ w = wr ∧ g = r.length + 1)
  case atStart => exact ⟨b, k, inner, r, rfl, h0, h2, hr, ht, rfl, rfl⟩
  case round =>
    clear h0 h2 hr ht
    obtain ⟨b, k, inner, r, rfl, h0, h2, hr, ht, rfl, rfl⟩ := hrel
    cases hk : (n == k) with
    | true =>
      have C := faultIs_any b k n w h0
      rw [hk] at C
      have ht : Hid (t = true) := ht.out.trans (tells_hit r hk)
      clear h0 h2 hr hk
      go_wp2_with (go_at_call 62; refine C.mono ?_; rintro e w' ⟨rfl, rfl⟩)
      go_ret
      exact ⟨by rw [ht.out]; rfl, rfl⟩
    | false =>
      have C := faultIs_any b k n w h0
      rw [hk] at C
      have D := unwrap_any b inner w h2
      have ht : Hid (t = tells r n) := ht.out.trans (tells_miss r hk)
      clear h0 h2 hk
      cases hr with
      | nil =>
        go_wp2_with (first | (go_at_call 62; refine C.mono ?_; rintro e w' ⟨rfl, rfl⟩) | (go_at_call 63; refine D.mono ?_; rintro e w' ⟨rfl, rfl⟩))
        go_ret
        exact ⟨by rw [ht.out]; rfl, rfl⟩
      | @cons b' k' a' inner' r' h0 h1 h2 hr =>
        have A : Aside (Chain w r' inner' ∧ w.cell? ⟨b', 0, none⟩ = some (.int .i64 k') ∧ w.cell? ⟨b', 2, none⟩ = some inner') := ⟨hr, h0, h2⟩
        clear h0 h1 h2 hr
        go_wp2_with (first | (go_at_call 62; refine C.mono ?_; rintro e w' ⟨rfl, rfl⟩) | (go_at_call 63; refine D.mono ?_; rintro e w' ⟨rfl, rfl⟩))
        go_roundg (r'.length + 1)
        case measure => simp
        case rel =>
          obtain ⟨hr, h0, h2⟩ := A.out
          exact ⟨b', k', inner', r', rfl, h0, h2, hr, ht, rfl, rfl⟩

set_option maxHeartbeats 1000000 in
theorem Is_any (ks : List Int) (p : Option Addr) (n : Int) (w : World) (hc : Chain w ks (.iface 54 (.pointer p))) (hne : ks ≠ []) :
    Calls Tryd.prog 38 #[.iface 54 (.pointer p), .iface 39 (.int .i64 n)] w fun e w' => e = .returned (.bool (tells ks n)) ∧ w = w' := by
  have C := is_any ks _ n w hc hne
  generalize tells ks n = t at C
  clear hc hne
  have x1 := @run_callFunc_extern Tryd.prog 42 _ ReflectliteType.typeOf Tryd.func42 (by kernel_rfl) (by kernel_rfl) (by kernel_rfl) (by kernel_rfl)
  have x2 := @run_callFunc_extern Tryd.prog 67 _ comparableEntry Tryd.func67 (by kernel_rfl) (by kernel_rfl) (by kernel_rfl) (by kernel_rfl)
  have tO := typeOfE
  have mC := methodComparable
  have cE := comparableE
  go_enter Tryd.func38, Tryd.ntmps38
  go_wp2_with (go_at_call 43; refine C.mono ?_; rintro e w' ⟨rfl, rfl⟩)
  go_ret
  exact ⟨rfl, rfl⟩

theorem FaultAt.chain {w : World} {v inner : Value} {k a : Int} {r : List Int} (h : FaultAt w v k a inner) (hr : Chain w r inner) : Chain w (k :: r) v := by
  obtain ⟨b, rfl, h0, h1, h2⟩ := h
  exact .cons h0 h1 h2 hr
theorem Chain.kept {B : Nat} {w w' : World} {ks : List Int} {v : Value} (h : Chain w ks v) (hb : Below B w w') (hB : w.heap.size ≤ B) : Chain w' ks v := by
  induction h with
  | nil => exact .nil
  | @cons b k a inner r h0 h1 h2 hr ih =>
    have hl : b < B := Nat.lt_of_lt_of_le (lt_of_cell h0) hB
    exact .cons ((hb.cell (p := ⟨b, 0, none⟩) hl).trans h0) ((hb.cell (p := ⟨b, 1, none⟩) hl).trans h1) ((hb.cell (p := ⟨b, 2, none⟩) hl).trans h2) ih
end Go.Proofs.YtmgdkdohadaknaaDoor.errs
