/- Kind and At of the statements: of a fault they tell its own number and place, of no error 0 and -1; api.Fail and api.Wrap lay one new block each. What was there stays. -/
import Derived.Test.YtoilalffhmjhdaaGreatDoorErrs
import Derived.Deep.LoopGhost
namespace Go.Proofs.YtoilalffhmjhdaaGreatDoor.errs
open Go.RowKit

/-- A fault: a pointer to a block that holds its number, its place, and the error that it came from. -/
def FaultAt (w : World) (v : Value) (k a : Int) (inner : Value) : Prop :=
  ∃ b, v = .iface 58 (.pointer (some ⟨b, 0, none⟩)) ∧ w.cell? ⟨b, 0, none⟩ = some (.int .i64 k) ∧ w.cell? ⟨b, 1, none⟩ = some (.int .i64 a) ∧ w.cell? ⟨b, 2, none⟩ = some inner

theorem FaultAt.below {B : Nat} {w w' : World} {v : Value} {k a : Int} {inner : Value} (h : FaultAt w v k a inner) (hb : Below B w w') (hB : w.heap.size ≤ B) : FaultAt w' v k a inner := by
  obtain ⟨b, rfl, h0, h1, h2⟩ := h
  have hl := lt_of_cell h0
  have hl : b < B := Nat.lt_of_lt_of_le hl hB
  exact ⟨b, rfl, (hb.cell (p := ⟨b, 0, none⟩) hl).trans h0, (hb.cell (p := ⟨b, 1, none⟩) hl).trans h1, (hb.cell (p := ⟨b, 2, none⟩) hl).trans h2⟩

/-- A new fault in a new block. -/
theorem fault_new (w : World) (k a : Int) (inner : Value) : FaultAt (w.alloc (.cells #[.int .i64 k, .int .i64 a, inner] 62)) (.iface 58 (.pointer (some ⟨w.heap.size, 0, none⟩))) k a inner :=
  ⟨w.heap.size, rfl, by rw [World.cell?_alloc_at _ _ _ _ rfl]; rfl, by rw [World.cell?_alloc_at _ _ _ _ rfl]; rfl, by rw [World.cell?_alloc_at _ _ _ _ rfl]; rfl⟩

theorem fail_any (k a : Int) (w : World) :
    Calls Tryz.prog 26 #[.int .i64 k, .int .i64 a] w fun e w' => e = .returned (.iface 58 (.pointer (some ⟨w.heap.size, 0, none⟩))) ∧ w.alloc (.cells #[.int .i64 k, .int .i64 a, .nilIface] 62) = w' := by
  go_enter Tryz.func26, Tryz.ntmps26
  go_wp2
  go_ret
  exact ⟨rfl, rfl⟩
theorem wrap_any (k a : Int) (p : Value) (w : World) :
    Calls Tryz.prog 40 #[.int .i64 k, .int .i64 a, .iface 58 p] w fun e w' => e = .returned (.iface 58 (.pointer (some ⟨w.heap.size, 0, none⟩))) ∧ w.alloc (.cells #[.int .i64 k, .int .i64 a, .iface 58 p] 62) = w' := by
  go_enter Tryz.func40, Tryz.ntmps40
  go_wp2
  go_ret
  exact ⟨rfl, rfl⟩

theorem asWorld_below {B : Nat} (w : World) (e t : Addr) (hB : B ≤ w.heap.size) (ht : B ≤ t.block) : Below B w (asWorld w e t) := by
  unfold asWorld
  exact (((((Below.refl B w).alloc hB _).alloc (by simp; omega) _).alloc (by simp; omega) _).alloc (by simp; omega) _).setCell ht _
theorem asWorld_target (w : World) (e t : Addr) (old : Value) (h : w.cell? t = some old) : (asWorld w e t).cell? t = some (.pointer (some e)) := by
  have htl := lt_of_cell h
  unfold asWorld
  generalize hw : (((w.alloc (.cells #[.pointer (some t)] 60)).alloc (.cells #[.pointer (some ⟨5, 60, none⟩), .pointer (some ⟨w.heap.size, 0, none⟩), .int .u64 150] 92)).alloc (.cells #[.pointer (some ⟨5, 60, none⟩), .pointer (some ⟨w.heap.size, 0, none⟩), .int .u64 150] 92)).alloc (.cells #[.pointer (some e)] 58) = W
  have hc : W.cell? t = some old := by
    rw [← hw, World.cell?_alloc_lt _ _ t (by simp; omega), World.cell?_alloc_lt _ _ t (by simp; omega), World.cell?_alloc_lt _ _ t (by simp; omega), World.cell?_alloc_lt _ _ t htl]; exact h
  exact World.cell?_setCell_same W t _ hc

theorem kind_nil (w : World) : Calls Tryz.prog 9 #[.nilIface] w fun e w' => e = .returned (.int .i64 0) ∧ w = w' := by
  go_enter Tryz.func9, Tryz.ntmps9
  go_wp2
  go_ret
  exact ⟨rfl, rfl⟩

theorem Laid.alloc {w : World} (h : Laid w) (o : Obj) : Laid (w.alloc o) := by
  unfold Laid at *
  rw [World.cell?_alloc_lt _ _ _ (lt_of_cell h)]; exact h
theorem Laid.below {B : Nat} {w w' : World} (h : Laid w) (hb : Below B w w') (hB : w.heap.size ≤ B) : Laid w' :=
  (hb.cell (p := ⟨0, 0, none⟩) (Nat.lt_of_lt_of_le (lt_of_cell h) hB)).trans h
theorem Laid.drew {w : World} (h : Laid w) : Laid w.drew := h

set_option maxHeartbeats 1000000 in
theorem kind_fault (v inner : Value) (k a : Int) (w : World) (hl : Laid w) (h : FaultAt w v k a inner) :
    Calls Tryz.prog 9 #[v] w fun e w' => e = .returned (.int .i64 k) ∧ Below w.heap.size w w' := by
  obtain ⟨b, rfl, h0, h1, h2⟩ := h
  have hlt := lt_of_cell h0
  have ht : (w.alloc (.cells #[.pointer none] 58)).cell? ⟨w.heap.size, 0, none⟩ = some (.pointer none) := by rw [World.cell?_alloc_at _ _ _ _ rfl]; rfl
  have hf : (w.alloc (.cells #[.pointer none] 58)).frozen? ⟨w.heap.size, 0, none⟩ = false := by rw [World.frozen?_alloc_at _ _ _ _ rfl]
  have C := as_hit ⟨b, 0, none⟩ ⟨w.heap.size, 0, none⟩ _ _ (hl.alloc (.cells #[.pointer none] 58)) ht hf
  have t1 := asWorld_target _ ⟨b, 0, none⟩ _ _ ht
  have hb : Below w.heap.size w (asWorld (w.alloc (.cells #[.pointer none] 58)) ⟨b, 0, none⟩ ⟨w.heap.size, 0, none⟩) :=
    ((Below.refl _ w).alloc (Nat.le_refl _) _).trans (asWorld_below _ _ _ (by simp) (by simp))
  have t2 := (hb.cell (p := ⟨b, 0, none⟩) hlt).trans h0
  generalize hW : asWorld (w.alloc (.cells #[.pointer none] 58)) ⟨b, 0, none⟩ ⟨w.heap.size, 0, none⟩ = W at C t1 hb t2
  clear hW h0 h1 h2 ht hf hl
  go_enter Tryz.func9, Tryz.ntmps9
  go_wp2_with (go_at_call 28; refine C.mono ?_; rintro e w' ⟨rfl, rfl⟩)
  go_ret
  exact ⟨rfl, hb⟩

theorem at_nil (w : World) : Calls Tryz.prog 10 #[.nilIface] w fun e w' => e = .returned (.int .i64 (-1)) ∧ Below w.heap.size w w' := by
  go_enter Tryz.func10, Tryz.ntmps10
  go_wp2
  go_ret
  exact ⟨rfl, (Below.refl _ w).alloc (Nat.le_refl _) _⟩

set_option maxHeartbeats 1000000 in
theorem at_fault (v inner : Value) (k a : Int) (w : World) (hl : Laid w) (h : FaultAt w v k a inner) :
    Calls Tryz.prog 10 #[v] w fun e w' => e = .returned (.int .i64 a) ∧ Below w.heap.size w w' := by
  obtain ⟨b, rfl, h0, h1, h2⟩ := h
  have hlt := lt_of_cell h0
  have ht : (w.alloc (.cells #[.pointer none] 58)).cell? ⟨w.heap.size, 0, none⟩ = some (.pointer none) := by rw [World.cell?_alloc_at _ _ _ _ rfl]; rfl
  have hf : (w.alloc (.cells #[.pointer none] 58)).frozen? ⟨w.heap.size, 0, none⟩ = false := by rw [World.frozen?_alloc_at _ _ _ _ rfl]
  have C := as_hit ⟨b, 0, none⟩ ⟨w.heap.size, 0, none⟩ _ _ (hl.alloc (.cells #[.pointer none] 58)) ht hf
  have t1 := asWorld_target _ ⟨b, 0, none⟩ _ _ ht
  have hb : Below w.heap.size w (asWorld (w.alloc (.cells #[.pointer none] 58)) ⟨b, 0, none⟩ ⟨w.heap.size, 0, none⟩) :=
    ((Below.refl _ w).alloc (Nat.le_refl _) _).trans (asWorld_below _ _ _ (by simp) (by simp))
  have t2 := (hb.cell (p := ⟨b, 1, none⟩) hlt).trans h1
  generalize hW : asWorld (w.alloc (.cells #[.pointer none] 58)) ⟨b, 0, none⟩ ⟨w.heap.size, 0, none⟩ = W at C t1 hb t2
  clear hW h0 h1 h2 ht hf hl
  go_enter Tryz.func10, Tryz.ntmps10
  go_wp2_with (go_at_call 28; refine C.mono ?_; rintro e w' ⟨rfl, rfl⟩)
  go_ret
  exact ⟨rfl, hb⟩
end Go.Proofs.YtoilalffhmjhdaaGreatDoor.errs
/- errors.Is and the statements' Has: whether a fault, or one that it came from, has a number is told. -/
namespace Go.Proofs.YtoilalffhmjhdaaGreatDoor.errs
open Go.RowKit Go.Extern.Stop Go.Stop Go.Extern
set_option maxRecDepth 100000

theorem typeOfE (v : Value) (w : World) : (ReflectliteType.typeOf #[.iface 41 v]).run Tryz.prog w = .ok (.iface 122 (.agg #[.pointer (some ⟨5, 41, none⟩)])) w := by kernel_rfl
theorem methodComparable (h : Value) (w : World) : (Go.method 295 122 (.agg #[h]) "Comparable").run Tryz.prog w = .ok (132, .agg #[h]) w := by kernel_rfl
theorem methodIs (a : Addr) (w : World) : (Go.method 295 58 (.pointer (some a)) "Is").run Tryz.prog w = .ok (125, .pointer (some a)) w := by kernel_rfl
theorem methodUnwrap (a : Addr) (w : World) : (Go.method 295 58 (.pointer (some a)) "Unwrap").run Tryz.prog w = .ok (126, .pointer (some a)) w := by kernel_rfl

theorem assertErrno (n : Int) (w : World) : (Instr.typeAssert (.iface 41 (.int .i64 n)) 28 41 true).run Tryz.prog w = .ok (.tuple #[.int .i64 n, .bool true]) w := by kernel_rfl
theorem assertIs (v : Value) (w : World) : (Instr.typeAssert (.iface 58 v) 28 141 true).run Tryz.prog w = .ok (.tuple #[.iface 58 v, .bool true]) w := by kernel_rfl
theorem assertUnwrap (v : Value) (w : World) : (Instr.typeAssert (.iface 58 v) 28 129 true).run Tryz.prog w = .ok (.tuple #[.iface 58 v, .bool true]) w := by kernel_rfl

theorem faultIs_any (b : Nat) (k n : Int) (w : World) (h0 : w.cell? ⟨b, 0, none⟩ = some (.int .i64 k)) :
    Calls Tryz.prog 125 #[.pointer (some ⟨b, 0, none⟩), .iface 41 (.int .i64 n)] w fun e w' => e = .returned (.bool (n == k)) ∧ w = w' := by
  have A := assertErrno
  go_enter Tryz.func125, Tryz.ntmps125
  go_wp2
  go_ret
  exact ⟨rfl, rfl⟩
theorem unwrap_any (b : Nat) (inner : Value) (w : World) (h2 : w.cell? ⟨b, 2, none⟩ = some inner) :
    Calls Tryz.prog 126 #[.pointer (some ⟨b, 0, none⟩)] w fun e w' => e = .returned inner ∧ w = w' := by
  go_enter Tryz.func126, Tryz.ntmps126
  go_wp2
  go_ret
  exact ⟨rfl, rfl⟩

/-- The errors from one inward: their numbers, the outermost first. -/
inductive Chain (w : World) : List Int → Value → Prop where
  | nil : Chain w [] .nilIface
  | cons {b : Nat} {k a : Int} {inner : Value} {r : List Int} (h0 : w.cell? ⟨b, 0, none⟩ = some (.int .i64 k)) (h1 : w.cell? ⟨b, 1, none⟩ = some (.int .i64 a)) (h2 : w.cell? ⟨b, 2, none⟩ = some inner) (hr : Chain w r inner) :
      Chain w (k :: r) (.iface 58 (.pointer (some ⟨b, 0, none⟩)))

def tells (ks : List Int) (n : Int) : Bool := ks.any fun k => n == k

/-- The model's entry for (rtype).Comparable. -/
def comparableEntry : Array Value → Sem Value := ReflectliteType.method fun t => do Rtype.noPackHeld "Comparable" t; pure (.bool (← typeInfo t).comparable)
theorem comparableE (w : World) : (comparableEntry #[.agg #[.pointer (some ⟨5, 41, none⟩)]]).run Tryz.prog w = .ok (.bool true) w := by kernel_rfl

theorem eqOther (p : Option Addr) (n : Int) (w : World) : (binOp BinOp.eql 28 (.iface 58 (.pointer p)) (.iface 41 (.int .i64 n))).run Tryz.prog w = .ok (.bool false) w := by kernel_rfl

theorem tells_hit {k n : Int} (r : List Int) (h : (n == k) = true) : tells (k :: r) n = true := by simp [tells, h]
theorem tells_miss {k n : Int} (r : List Int) (h : (n == k) = false) : tells (k :: r) n = tells r n := by simp [tells, h]

set_option maxHeartbeats 1000000 in
theorem is_any (ks : List Int) (v : Value) (n : Int) (w : World) (hc : Chain w ks v) (hne : ks ≠ []) :
    Calls Tryz.prog 68 #[v, .iface 41 (.int .i64 n), .bool true] w fun e w' => e = .returned (.bool (tells ks n)) ∧ w = w' := by
  cases hc with
  | nil => exact absurd rfl hne
  | @cons b k a inner r h0 h1 h2 hr =>
  clear h1 hne
  have e1 := eqOther
  have m1 := methodIs
  have m2 := methodUnwrap
  have a1 := assertIs
  have a2 := assertUnwrap
  obtain ⟨t, ht⟩ : ∃ t, t = tells (k :: r) n := ⟨_, rfl⟩
  rw [← ht]
  go_enter Tryz.func68, Tryz.ntmps68
  go_wp2_with fail
  go_loopg [0] (r.length + 1) (fun g v wr => ∃ b k inner r, v = .iface 58 (.pointer (some ⟨b, 0, none⟩)) ∧ w.cell? ⟨b, 0, none⟩ = some (.int .i64 k) ∧ w.cell? ⟨b, 2, none⟩ = some inner ∧ Chain w r inner ∧ Hid (t = tells (k :: r) n) ∧ w = wr ∧ g = r.length + 1)
  case atStart => exact ⟨b, k, inner, r, rfl, h0, h2, hr, ht, rfl, rfl⟩
  case round =>
    clear h0 h2 hr ht
    obtain ⟨b, k, inner, r, rfl, h0, h2, hr, ht, rfl, rfl⟩ := hrel
    cases hk : (n == k) with
    | true =>
      have C := faultIs_any b k n w h0
      rw [hk] at C
      have ht : Hid (t = true) := ht.out.trans (tells_hit r hk)
      clear h0 h2 hr hk
      go_wp2_with (go_at_call 125; refine C.mono ?_; rintro e w' ⟨rfl, rfl⟩)
      go_ret
      exact ⟨by rw [ht.out]; rfl, rfl⟩
    | false =>
      have C := faultIs_any b k n w h0
      rw [hk] at C
      have D := unwrap_any b inner w h2
      have ht : Hid (t = tells r n) := ht.out.trans (tells_miss r hk)
      clear h0 h2 hk
      cases hr with
      | nil =>
        go_wp2_with (first | (go_at_call 125; refine C.mono ?_; rintro e w' ⟨rfl, rfl⟩) | (go_at_call 126; refine D.mono ?_; rintro e w' ⟨rfl, rfl⟩))
        go_ret
        exact ⟨by rw [ht.out]; rfl, rfl⟩
      | @cons b' k' a' inner' r' h0 h1 h2 hr =>
        have A : Aside (Chain w r' inner' ∧ w.cell? ⟨b', 0, none⟩ = some (.int .i64 k') ∧ w.cell? ⟨b', 2, none⟩ = some inner') := ⟨hr, h0, h2⟩
        clear h0 h1 h2 hr
        go_wp2_with (first | (go_at_call 125; refine C.mono ?_; rintro e w' ⟨rfl, rfl⟩) | (go_at_call 126; refine D.mono ?_; rintro e w' ⟨rfl, rfl⟩))
        go_roundg (r'.length + 1)
        case measure => simp
        case rel =>
          obtain ⟨hr, h0, h2⟩ := A.out
          exact ⟨b', k', inner', r', rfl, h0, h2, hr, ht, rfl, rfl⟩

set_option maxHeartbeats 1000000 in
theorem Is_any (ks : List Int) (p : Option Addr) (n : Int) (w : World) (hc : Chain w ks (.iface 58 (.pointer p))) (hne : ks ≠ []) :
    Calls Tryz.prog 41 #[.iface 58 (.pointer p), .iface 41 (.int .i64 n)] w fun e w' => e = .returned (.bool (tells ks n)) ∧ w = w' := by
  have C := is_any ks _ n w hc hne
  generalize tells ks n = t at C
  clear hc hne
  have x1 := @run_callFunc_extern Tryz.prog 67 _ ReflectliteType.typeOf Tryz.func67 (by kernel_rfl) (by kernel_rfl) (by kernel_rfl) (by kernel_rfl)
  have x2 := @run_callFunc_extern Tryz.prog 132 _ comparableEntry Tryz.func132 (by kernel_rfl) (by kernel_rfl) (by kernel_rfl) (by kernel_rfl)
  have tO := typeOfE
  have mC := methodComparable
  have cE := comparableE
  go_enter Tryz.func41, Tryz.ntmps41
  go_wp2_with (go_at_call 68; refine C.mono ?_; rintro e w' ⟨rfl, rfl⟩)
  go_ret
  exact ⟨rfl, rfl⟩

theorem has_any (ks : List Int) (v : Value) (n : Int) (w : World) (hc : Chain w ks v) :
    Calls Tryz.prog 18 #[v, .int .i64 n] w fun e w' => e = .returned (.bool (tells ks n)) ∧ w = w' := by
  cases hc with
  | nil =>
    go_enter Tryz.func18, Tryz.ntmps18
    go_wp2
    go_ret
    exact ⟨rfl, rfl⟩
  | @cons b k a inner r h0 h1 h2 hr =>
    have C := Is_any (k :: r) _ n w (.cons h0 h1 h2 hr) (by simp)
    generalize tells (k :: r) n = t at C
    clear h0 h1 h2 hr
    go_enter Tryz.func18, Tryz.ntmps18
    go_wp2_with (go_at_call 41; refine C.mono ?_; rintro e w' ⟨rfl, rfl⟩)
    go_ret
    exact ⟨rfl, rfl⟩

theorem FaultAt.chain {w : World} {v inner : Value} {k a : Int} {r : List Int} (h : FaultAt w v k a inner) (hr : Chain w r inner) : Chain w (k :: r) v := by
  obtain ⟨b, rfl, h0, h1, h2⟩ := h
  exact .cons h0 h1 h2 hr
theorem Chain.kept {B : Nat} {w w' : World} {ks : List Int} {v : Value} (h : Chain w ks v) (hb : Below B w w') (hB : w.heap.size ≤ B) : Chain w' ks v := by
  induction h with
  | nil => exact .nil
  | @cons b k a inner r h0 h1 h2 hr ih =>
    have hl : b < B := Nat.lt_of_lt_of_le (lt_of_cell h0) hB
    exact .cons ((hb.cell (p := ⟨b, 0, none⟩) hl).trans h0) ((hb.cell (p := ⟨b, 1, none⟩) hl).trans h1) ((hb.cell (p := ⟨b, 2, none⟩) hl).trans h2) ih
end Go.Proofs.YtoilalffhmjhdaaGreatDoor.errs
/- Kind, At and Has asked one behind the other: each keeps all that stood when the first one was asked. -/
namespace Go.Proofs.YtoilalffhmjhdaaGreatDoor.errs
open Go.RowKit

/-- What stood in W stands in w. -/
def Keeps (W w : World) : Prop := Below W.heap.size W w
theorem Keeps.refl (W : World) : Keeps W W := Below.refl _ _
theorem Keeps.out {W w : World} (h : Keeps W w) : Below W.heap.size W w := h
theorem Keeps.step {W w w' : World} (h : Keeps W w) (h' : Below w.heap.size w w') : Keeps W w' := Below.trans h (Below.mono h' (Below.size h))

theorem kind_keeps {W w : World} {v inner : Value} {k a : Int} (hL : Laid W) (hf : FaultAt W v k a inner) (hb : Keeps W w) :
    Calls Tryz.prog 9 #[v] w fun e w' => e = .returned (.int .i64 k) ∧ Keeps W w' :=
  (kind_fault v inner k a w (hL.below hb (Nat.le_refl _)) (hf.below hb (Nat.le_refl _))).mono fun _ _ ⟨h1, h2⟩ => ⟨h1, hb.step h2⟩
theorem at_keeps {W w : World} {v inner : Value} {k a : Int} (hL : Laid W) (hf : FaultAt W v k a inner) (hb : Keeps W w) :
    Calls Tryz.prog 10 #[v] w fun e w' => e = .returned (.int .i64 a) ∧ Keeps W w' :=
  (at_fault v inner k a w (hL.below hb (Nat.le_refl _)) (hf.below hb (Nat.le_refl _))).mono fun _ _ ⟨h1, h2⟩ => ⟨h1, hb.step h2⟩
theorem has_keeps {W w : World} {v : Value} {ks : List Int} {n : Int} {t : Bool} (hc : Chain W ks v) (ht : tells ks n = t) (hb : Keeps W w) :
    Calls Tryz.prog 18 #[v, .int .i64 n] w fun e w' => e = .returned (.bool t) ∧ w = w' := by
  subst ht
  exact has_any ks v n w (hc.kept hb (Nat.le_refl _))
end Go.Proofs.YtoilalffhmjhdaaGreatDoor.errs
