/- subst.Check: what is wrong with a pattern with variables. -/
import Derived.Test.YtoilalffhmjhdaaGreatDoorSbIter
set_option linter.unusedSimpArgs false
set_option linter.unusedVariables false
namespace Go.Proofs.YtoilalffhmjhdaaGreatDoor.subst
open Go.RowKit Go.Shelf Go.Proofs.YtoilalffhmjhdaaGreatDoor.errs Go.Proofs.YtoilalffhmjhdaaGreatDoor.rows Go.Proofs.YtoilalffhmjhdaaGreatDoor.utf Go.Proofs.YtoilalffhmjhdaaGreatDoor.glref
attribute [local go_sem] Oper.semAt_some

/-- What is wrong with a part, at its place. -/
def partBad (kn : List UInt8 → Bool) (x : Nat × Pt) : Int × Int := if x.2.kind = 2 then (10, (x.1 : Int)) else if x.2.kind = 1 ∧ kn x.2.name = false then (30, (x.1 : Int)) else (0, 0)
def partsBad (kn : List UInt8 → Bool) : List (Nat × Pt) → Int × Int
  | [] => (0, 0)
  | x :: r => if (partBad kn x).1 = 0 then partsBad kn r else partBad kn x
def checkS (l : List UInt8) (vs : List Vr) : Int × Int := if (checkOf (T l)).1 = 0 then partsBad (knownV vs) (partsOf l) else checkOf (T l)
theorem bad_none (kn : List UInt8 → Bool) : ∀ (l : List (Nat × Pt)), (∀ x ∈ l, (partBad kn x).1 = 0) → partsBad kn l = (0, 0)
  | [], _ => rfl
  | x :: r, h => by
    show (if _ then _ else _) = _
    rw [if_pos (h x (List.mem_cons_self ..))]
    exact bad_none kn r (fun y hy => h y (List.mem_cons_of_mem _ hy))
theorem bad_at (kn : List UInt8 → Bool) : ∀ (a : List (Nat × Pt)) (x : Nat × Pt) (b : List (Nat × Pt)), (∀ y ∈ a, (partBad kn y).1 = 0) → (partBad kn x).1 ≠ 0 → partsBad kn (a ++ x :: b) = partBad kn x
  | [], x, b, _, h => by
    show (if _ then _ else _) = _
    rw [if_neg h]
  | y :: a, x, b, h0, h => by
    show (if _ then _ else _) = _
    rw [if_pos (h0 y (List.mem_cons_self ..))]
    exact bad_at kn a x b (fun z hz => h0 z (List.mem_cons_of_mem _ hz)) h
theorem fault_set {w : World} {v inner : Value} {k a : Int} (h : FaultAt w v k a inner) {p : Addr} {u : Value} (hu : w.cell? ⟨p.block, 0, none⟩ = some u) (hn : ∀ n, u ≠ .int .i64 n) (x : Value) : FaultAt (w.setCell p x) v k a inner := by
  obtain ⟨b, rfl, h0, h1, h2⟩ := h
  have hne : p.block ≠ b := by
    rintro rfl
    rw [h0] at hu
    exact hn k (Option.some.inj hu).symm
  have hq : ∀ o, p ≠ (⟨b, o, none⟩ : Addr) := fun o e => hne (by rw [e])
  exact ⟨b, rfl, (World.cell?_setCell_other _ _ _ _ (hq 0)).trans h0, (World.cell?_setCell_other _ _ _ _ (hq 1)).trans h1, (World.cell?_setCell_other _ _ _ _ (hq 2)).trans h2⟩
theorem FaultAt.own {w w' : World} {v inner : Value} {k a : Int} {row : Option Nat} (h : FaultAt w v k a inner) (hg : w.grownBy w' row) (hr : ∀ r, row = some r → ∃ o : Obj, w.heap[r]? = some o ∧ o.isCells = false) : FaultAt w' v k a inner := by
  obtain ⟨b, rfl, h0, h1, h2⟩ := h
  exact ⟨b, rfl, cell_kept h0 hg hr, cell_kept h1 hg hr, cell_kept h2 hg hr⟩

set_option maxRecDepth 100000 in
set_option maxHeartbeats 4000000 in
theorem scheck_glob (l : List UInt8) (a : Option Addr) (n cap : Nat) (w : World) (hl : l.length ≤ 1000000) (hT : Tabs w) (hok : okP (T l) = false) :
    Calls Tryz.prog 8 #[.string (T l), .slice a n cap] w fun e w' => Failed w e w' (checkOf (T l)).1 (checkOf (T l)).2 id := by
  obtain ⟨W0, hW0⟩ : ∃ W0, (w.alloc (.cells #[.slice a n cap] 22)).alloc (.cells #[.nilIface] 28) = W0 := ⟨_, rfl⟩
  have hB : Keeps w W0 := by rw [← hW0]; exact ((Below.refl _ _).alloc (Nat.le_refl _) _).alloc (by simp) _
  have C := check_wrong hok hl W0 (hT.below hB (Nat.le_refl _))
  have c0 : W0.heap[w.heap.size + 1]? = some (.cells #[.nilIface] 28 (0, 0)) := by
    rw [← hW0]
    have := heap_alloc_new (w.alloc (.cells #[.slice a n cap] 22)) (.cells #[.nilIface] 28)
    rwa [World.size_alloc] at this
  have HW0 := Lib.hid hW0
  have HB := Lib.hid hB
  clear hW0 hB hT hok
  refine (callsIn_wide (n := 4)).1 ?_
  refine callsIn_of_wp_marks Tryz.func8 rfl trivial ?_ rfl
  simp only [Tryz.ntmps8, List.size_toArray, List.length_cons, List.length_nil, Nat.reduceAdd, Nat.reduceSub, Array.replicate_succ, Array.replicate_zero, List.push_toArray, List.append_toArray, List.nil_append, List.cons_append]
  gi_wp2_with fail
  rw [HW0.out]
  refine ⟨trivial, CallsIn.mono (callsIn_wide.2 C) ?_⟩; rintro e w1 ⟨bb, rfl, hb⟩
  have c1 : w1.heap[w.heap.size + 1]? = some (.cells #[.nilIface] 28 (0, 0)) := (hb.out.2.block _ (Array.getElem?_eq_some_iff.1 c0).1).trans c0
  have d0 : w1.cell? ⟨w.heap.size + 1, 0, none⟩ = some .nilIface := cell_of_heap c1 rfl
  have d1 : w1.frozen? ⟨w.heap.size + 1, 0, none⟩ = false := by simp [World.frozen?, c1]
  have HC := Lib.hid (⟨hb.out.1, hb.out.2, d0⟩ : _ ∧ _ ∧ _)
  gi_wp2_with fail
  refine ⟨.iface 58 (.pointer (some ⟨bb, 0, none⟩)), by simp [results, Tryz.f8, go_sem, d0], _, rfl, fault_set (p := ⟨w.heap.size + 1, 0, none⟩) HC.out.1 HC.out.2.2 (fun n e => by cases e) _, ?_⟩
  exact (HB.out.trans (HC.out.2.1.mono HB.out.size)).setCell (p := ⟨w.heap.size + 1, 0, none⟩) (by simp) _

theorem keepsFrom_of {W W' : World} (h : Keeps W W') (B : Nat) : KeepsFrom B W W' := ⟨h.size, fun k o _ hk _ => (h.block k (Array.getElem?_eq_some_iff.1 hk).1).trans hk⟩
theorem kp_put {X : List Nat} {n : Nat} (hX : ∀ k ∈ X, k < n) (W : World) (l : Nat) (o o' : Obj) (hl : n ≤ l) (h : W.heap[l]? = some o) (hc : o.isCells = false) (_ : o.isWalk = false) : KpP X W (W.putObj l o') :=
  ⟨fun k hk => World.putObj_heap_other (fun e => by have := hX k hk; omega), fun k cs hk => (World.putObj_heap_other (fun e => by subst e; rw [hk] at h; cases h; cases hc)).trans hk, by simp⟩
theorem heap_own {β : Type} (b : Nat) (cs : β → Array Value) (t : TypeId) (B : Nat) : OwnFrom B (fun s W => W.heap[b]? = some (Obj.cells (cs s) t (0, 0))) := fun s X Y row hs hg hr =>
  (hg.block b (Array.getElem?_eq_some_iff.1 hs).1 (fun e => by obtain ⟨-, o, ho, hc⟩ := hr b e.symm; rw [hs] at ho; cases ho; cases hc)).trans hs
/-- What holds between two parts, and where one is wrong. -/
def ChkI (w : World) (N : Nat) (kn : List UInt8 → Bool) (vv : Value) (pre : List (Nat × Pt)) (W : World) : Prop :=
  ((((∀ x ∈ pre, (partBad kn x).1 = 0) ∧ Boxed W (w.heap.size + 1) 28 .nilIface) ∧ Boxed W w.heap.size 22 vv) ∧ Below w.heap.size w W) ∧ N ≤ W.heap.size
theorem size_own {β : Type} (B N : Nat) : OwnFrom B (fun (_ : β) W => N ≤ W.heap.size) := fun _ _ _ _ hs hg _ => Nat.le_trans hs hg.size
def ChkX (w : World) (kn : List UInt8 → Bool) (c : Code) (pre : List (Nat × Pt)) (W : World) : Prop :=
  (c = .ret ∧ ∃ a x, pre = a ++ [x] ∧ (∀ y ∈ a, (partBad kn y).1 = 0) ∧ (partBad kn x).1 ≠ 0 ∧ ∃ bb, Boxed W (w.heap.size + 1) 28 (.iface 58 (.pointer (some ⟨bb, 0, none⟩))) ∧ FaultAt W (.iface 58 (.pointer (some ⟨bb, 0, none⟩))) (partBad kn x).1 (partBad kn x).2 .nilIface) ∧ Below w.heap.size w W
theorem chkI_own {w : World} {N : Nat} {kn : List UInt8 → Bool} {vv : Value} {B : Nat} (hB : w.heap.size ≤ B) : OwnFrom B (ChkI w N kn vv) :=
  OwnFrom.and (OwnFrom.and (OwnFrom.and (OwnFrom.and (ownFrom_pure _ _) (Own.from (boxed_own _ _ _) _)) (Own.from (boxed_own _ _ _) _)) (ownFrom_below (Nat.le_refl _) hB)) (size_own _ _)
theorem chkX_own {w : World} {kn : List UInt8 → Bool} {B : Nat} (hB : w.heap.size ≤ B) (c : Code) : OwnFrom B (ChkX w kn c) :=
  OwnFrom.and (fun s X Y row ⟨hc, a, x, h1, h2, h3, bb, h4, h5⟩ hg hr => ⟨hc, a, x, h1, h2, h3, bb, boxed_own (w.heap.size + 1) 28 (fun (_ : Unit) => Value.iface 58 (.pointer (some ⟨bb, 0, none⟩))) () X Y row h4 hg (fun r e => (hr r e).2), FaultAt.own h5 hg (fun r e => (hr r e).2)⟩) (ownFrom_below (Nat.le_refl _) hB)
set_option maxRecDepth 100000 in
set_option maxHeartbeats 4000000 in
theorem scheck_parts (l : List UInt8) (vs : List Vr) (v : Value) (w : World) (hl : l.length ≤ 1000000) (hT : Tabs w) (hM : MaxL w) (hK : Clss w) (hv : VarsIn w v vs) (hvn : vs.length ≤ 1000001) (hok : okP (T l) = true) :
    Calls Tryz.prog 8 #[.string (T l), v] w fun e w' => CheckOut (partsBad (knownV vs) (partsOf l)) w e w' := by
  obtain ⟨a, cap, rfl⟩ := hv.form
  have HS := Lib.hid (⟨hT, hM, hK, hv, hvn, hl⟩ : _ ∧ _ ∧ _ ∧ _ ∧ _ ∧ _)
  obtain ⟨n, hn⟩ : ∃ n, Hid (vs.length = n) := ⟨_, rfl⟩
  rw [hn.out] at HS hv ⊢
  obtain ⟨W0, hW0⟩ : ∃ W0, (w.alloc (.cells #[.slice a n cap] 22)).alloc (.cells #[.nilIface] 28) = W0 := ⟨_, rfl⟩
  have hB : Keeps w W0 := by rw [← hW0]; exact ((Below.refl _ _).alloc (Nat.le_refl _) _).alloc (by simp) _
  have C := check_ok hok hl W0 (hT.below hB (Nat.le_refl _))
  have c0 : Boxed W0 (w.heap.size + 1) 28 .nilIface := by
    rw [← hW0]
    have := Boxed.new (w.alloc (.cells #[.slice a n cap] 22)) 28 .nilIface
    rwa [World.size_alloc] at this
  have c1 : Boxed W0 w.heap.size 22 (.slice a n cap) := by rw [← hW0]; exact (Boxed.new w _ _).alloc _
  have HW0 := Lib.hid hW0
  have HB := Lib.hid hB
  have HC := Lib.hid (⟨c0, c1⟩ : _ ∧ _)
  clear hW0 hB hT hok hM hK hv hvn c0 c1
  refine (callsIn_wide (n := 4)).1 ?_
  refine callsIn_of_wp_marks Tryz.func8 rfl trivial ?_ rfl
  simp only [Tryz.ntmps8, List.size_toArray, List.length_cons, List.length_nil, Nat.reduceAdd, Nat.reduceSub, Array.replicate_succ, Array.replicate_zero, List.push_toArray, List.append_toArray, List.nil_append, List.cons_append]
  gi_wp2_with fail
  rw [HW0.out]
  refine ⟨trivial, CallsIn.mono (callsIn_wide.2 C) ?_⟩; rintro e w1 ⟨rfl, hb⟩
  have b0 : Boxed w1 (w.heap.size + 1) 28 .nilIface := (hb.block _ HC.out.1.lt).trans HC.out.1
  have b1 : Boxed w1 w.heap.size 22 (.slice a n cap) := (hb.block _ HC.out.2.lt).trans HC.out.2
  have B1 : Below w.heap.size w w1 := HB.out.trans (hb.mono HB.out.size)
  have HB1 := Lib.hid (⟨b0, b1, B1⟩ : _ ∧ _ ∧ _)
  clear hb C b0 b1 B1
  gi_wp2_with fail
  refine ⟨trivial, CallsIn.mono (callsIn_wide.2 (parts_any (T l) w1)) ?_⟩; rintro e w2 ⟨rfl, rfl⟩
  gi_wp2_with fail
  obtain ⟨Bs, hBs⟩ : ∃ Bs, w1.heap.size = Bs := ⟨_, rfl⟩
  obtain ⟨W1, hW1⟩ : ∃ W1, w1.alloc (.cells #[.string (T l)] 9) = W1 := ⟨_, rfl⟩
  have k1 : Keeps w1 W1 := by rw [← hW1]; exact (Below.refl _ _).alloc (Nat.le_refl _) _
  have bs : W1.cell? ⟨Bs, 0, none⟩ = some (.string (T l)) := by rw [← hW1, ← hBs]; exact (Boxed.new w1 _ _).cell
  have sz : W1.heap.size = Bs + 1 := by rw [← hW1, World.size_alloc, hBs]
  obtain ⟨b0, b1, B1⟩ := HB1.out
  have B2 : Below w.heap.size w W1 := B1.trans (Below.mono k1 B1.size)
  have hwB : w.heap.size + 1 < Bs := by rw [← hBs]; exact b0.lt
  obtain ⟨m, hm⟩ := HS.out.2.1
  have hgl : 2 < w.heap.size := lt_of_cell hm
  have hX : ∀ k ∈ [Bs, 2], k < W1.heap.size := fun k hk => by
    rcases List.mem_cons.1 hk with rfl | hk
    · omega
    · rw [List.mem_singleton.1 hk]; omega
  rw [hBs, hW1]
  have I0 : ChkI w W1.heap.size (knownV vs) (.slice a n cap) [] W1 := ⟨⟨⟨⟨(fun x hx => by cases hx), (k1.block _ b0.lt).trans b0⟩, (k1.block _ b1.lt).trans b1⟩, B2⟩, Nat.le_refl _⟩
  refine wpIn_rangeFunc_ownH rfl (by decide) (gf := 44) (lb := #[.pointer (some ⟨Bs, 0, none⟩)]) rfl trivial (enters_of Tryz.func44 (by kernel_rfl) rfl)
    (parts_stops (4 - 1) (by decide) Bs [Bs, 2] l HS.out.2.2.2.2.2 W1 (List.mem_cons_self ..) (List.mem_cons_of_mem _ (List.mem_cons_self ..)) hX bs (HS.out.2.1.below B2 (Nat.le_refl _)))
    (fun h k => h.trans k) (kp_put hX) (Below.refl _ _) (fun _ => rfl)
    (ChkI w W1.heap.size (knownV vs) (.slice a n cap)) (ChkX w (knownV vs)) (chkI_own (by omega)) (fun c => chkX_own (by omega) c) I0
    (fun x a' W => ∃ Bx, w.heap.size + 1 < Bx ∧ W.heap[Bx]? = some (Obj.cells #[.int .i64 (x.2.kind : Int), .string (T x.2.tx), .string (T x.2.name)] 55 (0, 0)) ∧ a' = { tmps := #[.string (T l), .slice a n cap, undef, .pointer (some ⟨w.heap.size, 0, none⟩), .pointer (some ⟨w.heap.size + 1, 0, none⟩), .nilIface, .int .i64 (x.1 : Int), .pointer (some ⟨Bx, 0, none⟩), .string (T l), .nilIface, .nilIface, .bool false, undef, .string (T l), .func (.func 44) #[] #[.pointer (some ⟨Bs, 0, none⟩)], .int .i64 (x.1 : Int), .agg #[.int .i64 (x.2.kind : Int), .string (T x.2.tx), .string (T x.2.name)], undef, undef, undef, undef, undef, undef, undef, undef, undef, undef, undef, undef, undef, undef, undef, undef, undef, undef, undef], defers := [] })
    (fun x a' s X Y row hs hg hr => by obtain ⟨Bx, e1, e2, e3⟩ := hs; exact ⟨Bx, e1, heap_own Bx (fun (_ : Unit) => #[.int .i64 (x.2.kind : Int), .string (T x.2.tx), .string (T x.2.name)]) 55 W1.heap.size () X Y row e2 hg hr, e3⟩)
    ?assign ?body ?done ?stop
  case assign =>
    rintro y pre ⟨i, p⟩ W K ⟨⟨⟨⟨hp, q0⟩, q1⟩, q2⟩, q3⟩ hK
    have l0 := q0.lt
    have hk : Keeps W (W.alloc (.cells #[.int .i64 (p.kind : Int), .string (T p.tx), .string (T p.name)] 55)) := (Below.refl _ _).alloc (Nat.le_refl _) _
    unfold encP
    gi_wp2
    exact hK _ _ (keepsFrom_of hk _) (KpP.of_below hk fun k hkk => Nat.lt_of_lt_of_le (hX k hkk) q3) ⟨⟨⟨⟨hp, q0.alloc _⟩, q1.alloc _⟩, q2.alloc q2.size _⟩, by simp; omega⟩ ⟨W.heap.size, l0, heap_alloc_new W _, rfl⟩
  case body =>
    rintro y pre ⟨i, p⟩ a' W hl' ⟨r, hr⟩ ⟨⟨⟨⟨hp, q0⟩, q1⟩, q2⟩, q3⟩ ⟨Bx, hBx, hX2, rfl⟩ hlt
    have c0 : W.cell? ⟨Bx, 0, none⟩ = some (.int .i64 (p.kind : Int)) := cell_of_heap hX2 rfl
    have c2 : W.cell? ⟨Bx, 2, none⟩ = some (.string (T p.name)) := cell_of_heap hX2 rfl
    have d0 := q0.cell
    have d1 := q1.cell
    have df := q0.frozen
    have l0 := q0.lt
    have QQ := Lib.hid (⟨hp, q0, q1, q2, q3⟩ : _ ∧ _ ∧ _ ∧ _ ∧ _)
    have HBX := Lib.hid hX2
    have FX : Hid (∀ (k : Int) (W2 : World), Keeps W W2 → partBad (knownV vs) (i, p) = (k, (i : Int)) → k ≠ 0 → KeepsFrom W1.heap.size W ((W2.setCell ⟨w.heap.size + 1, 0, none⟩ (.iface 58 (.pointer (some ⟨W2.heap.size, 0, none⟩)))).alloc (.cells #[.int .i64 k, .int .i64 (i : Int), .nilIface] 62)) ∧
        ChkX w (knownV vs) .ret (pre ++ [(i, p)]) ((W2.setCell ⟨w.heap.size + 1, 0, none⟩ (.iface 58 (.pointer (some ⟨W2.heap.size, 0, none⟩)))).alloc (.cells #[.int .i64 k, .int .i64 (i : Int), .nilIface] 62))) := fun k W2 hk hb hk0 => by
      have s2 : (W2.setCell ⟨w.heap.size + 1, 0, none⟩ (.iface 58 (.pointer (some ⟨W2.heap.size, 0, none⟩)))).heap.size = W2.heap.size := by simp [World.setCell]
      have hq : Boxed W2 (w.heap.size + 1) 28 .nilIface := (hk.block _ q0.lt).trans q0
      have fn := fault_new (W2.setCell ⟨w.heap.size + 1, 0, none⟩ (.iface 58 (.pointer (some ⟨W2.heap.size, 0, none⟩)))) k (i : Int) .nilIface
      rw [s2] at fn
      refine ⟨(keepsFrom_of hk _).trans (((KeepsOthers.setCell _ _ _).trans (KeepsOthers.alloc _ _)).from _), ⟨rfl, pre, (i, p), rfl, hp, by rw [hb]; exact hk0, W2.heap.size, (hq.set _).alloc _, by rw [hb]; exact fn⟩, ?_⟩
      exact ((q2.trans (Below.mono hk q2.size)).setCell (p := ⟨w.heap.size + 1, 0, none⟩) (by simp) _).alloc (by rw [s2]; exact Nat.le_trans q2.size hk.size) _
    have NX : Hid (∀ W2 : World, Keeps W W2 → (partBad (knownV vs) (i, p)).1 = 0 → KeepsFrom W1.heap.size W W2 ∧ KpP [Bs, 2] W W2 ∧ ChkI w W1.heap.size (knownV vs) (.slice a n cap) (pre ++ [(i, p)]) W2) := fun W2 hk hb => by
      refine ⟨keepsFrom_of hk _, KpP.of_below hk fun k hkk => Nat.lt_of_lt_of_le (hX k hkk) q3, ⟨⟨⟨fun x hx => ?_, (hk.block _ q0.lt).trans q0⟩, (hk.block _ q1.lt).trans q1⟩, q2.trans (Below.mono hk q2.size)⟩, Nat.le_trans q3 hk.size⟩
      rcases List.mem_append.1 hx with h | h
      · exact hp x h
      · rw [List.mem_singleton.1 h]; exact hb
    have KV : Hid (∀ W2 : World, Keeps W W2 → Calls Tryz.prog 27 #[.string (T p.name), .slice a n cap] W2 fun e w' => e = .returned (.bool (knownV vs p.name)) ∧ Below W2.heap.size W2 w') := fun W2 hk => by
      have hB : Keeps w W2 := q2.trans (Below.mono hk q2.size)
      exact known_any vs (.slice a n cap) p.name W2 (HS.out.2.2.2.1.below hB) (by rw [hn.out]; exact HS.out.2.2.2.2.1) (HS.out.2.2.1.below hB (Nat.le_refl _))
    clear hp q0 q1 q2 q3 hX2
    by_cases k2 : p.kind = 2
    · have e2 : ((p.kind : Int) == 2) = true := by rw [beq_iff_eq]; omega
      have PB : Hid (partBad (knownV vs) (i, p) = (10, (i : Int))) := by show _ = _; unfold partBad; rw [if_pos k2]
      have FA := fun w => fail_any 10 (i : Int) w
      clear k2
      gi_wp2_with fail
      refine ⟨trivial, CallsIn.mono (CallsIn.inRound y (callsIn_wide.2 (FA _))) ?_⟩; rintro e w5 ⟨rfl, rfl⟩
      gi_wp2_with fail
      exact FX.out 10 W (Below.refl _ _) PB.out (by decide)
    · have e2 : ((p.kind : Int) == 2) = false := by rw [beq_eq_false_iff_ne]; omega
      by_cases k1 : p.kind = 1
      · have e1 : ((p.kind : Int) == 1) = true := by rw [beq_iff_eq]; omega
        have KV1 := KV.out W (Below.refl _ _)
        cases hk : knownV vs p.name with
        | true =>
          have PB : Hid ((partBad (knownV vs) (i, p)).1 = 0) := by show _ = _; unfold partBad; rw [if_neg k2, if_neg (fun h => by rw [hk] at h; exact absurd h.2 (by decide))]
          rw [hk] at KV1
          clear k2 k1 hk
          gi_wp2_with fail
          refine ⟨trivial, CallsIn.mono (CallsIn.inRound y (callsIn_wide.2 KV1)) ?_⟩; rintro e w5 ⟨rfl, hb⟩
          have HB5 := Lib.hid hb
          clear hb
          gi_wp2_with fail
          exact NX.out w5 HB5.out PB.out
        | false =>
          have PB : Hid (partBad (knownV vs) (i, p) = (30, (i : Int))) := by show _ = _; unfold partBad; rw [if_neg k2, if_pos ⟨k1, hk⟩]
          have FA := fun w => fail_any 30 (i : Int) w
          rw [hk] at KV1
          clear k2 k1 hk
          gi_wp2_with fail
          refine ⟨trivial, CallsIn.mono (CallsIn.inRound y (callsIn_wide.2 KV1)) ?_⟩; rintro e w5 ⟨rfl, hb⟩
          have HB5 := Lib.hid hb
          have d5 : w5.cell? ⟨w.heap.size + 1, 0, none⟩ = some .nilIface := (hb.cell (p := ⟨w.heap.size + 1, 0, none⟩) l0).trans d0
          have f5 : w5.frozen? ⟨w.heap.size + 1, 0, none⟩ = false := (hb.frozen (p := ⟨w.heap.size + 1, 0, none⟩) l0).trans df
          have l5 : w.heap.size + 1 < w5.heap.size := lt_of_cell d5
          clear hb
          gi_wp2_with fail
          refine ⟨trivial, CallsIn.mono (CallsIn.inRound y (callsIn_wide.2 (FA _))) ?_⟩; rintro e w6 ⟨rfl, rfl⟩
          gi_wp2_with fail
          exact FX.out 30 w5 HB5.out PB.out (by decide)
      · have e1 : ((p.kind : Int) == 1) = false := by rw [beq_eq_false_iff_ne]; omega
        have PB : Hid ((partBad (knownV vs) (i, p)).1 = 0) := by show _ = _; unfold partBad; rw [if_neg k2, if_neg (fun h => k1 h.1)]
        clear k2 k1
        gi_wp2_with fail
        refine ⟨trivial, ?_⟩
        gi_wp2_with fail
        exact NX.out W (Below.refl _ _) PB.out
  case done =>
    rintro D zs W hD rfl ⟨⟨⟨⟨hp, q0⟩, q1⟩, q2⟩, q3⟩ hK
    have cR := q0.cell
    have fR := q0.frozen
    gi_wp2_with fail
    have hK' := (KeepsOthers.setCell W ⟨w.heap.size + 1, 0, none⟩ .nilIface).same D _ hK rfl
    refine ⟨by simp, .inl ⟨_, _, rfl, run_takeDeferred hK', ?_⟩⟩
    have hc5 := cell_kept (q0.set .nilIface).cell (grownBy_putObj' _ D (.deferred none)) (fun r e => by cases e; exact ⟨_, hK', rfl⟩)
    refine ⟨.nilIface, by simp [results, Tryz.f8, go_sem, hc5], ?_⟩
    rw [bad_none _ _ hp]
    exact ⟨rfl, (q2.setCell (p := ⟨w.heap.size + 1, 0, none⟩) (by simp) _).trans (belowK_b (w := w) (Nat.le_refl _) _ D _ _ (by omega) hK' rfl rfl)⟩
  case stop =>
    rintro D c pre W hD hpre ⟨⟨rfl, a0, x, rfl, h1, h2, bb, q0, h3⟩, q2⟩ hK
    gi_wp2_with fail
    refine ⟨by simp, .inl ⟨_, _, rfl, run_takeDeferred hK, ?_⟩⟩
    have hc5 := cell_kept q0.cell (grownBy_putObj' _ D (.deferred none)) (fun r e => by cases e; exact ⟨_, hK, rfl⟩)
    refine ⟨.iface 58 (.pointer (some ⟨bb, 0, none⟩)), by simp [results, Tryz.f8, go_sem, hc5], ?_⟩
    obtain ⟨b, hb⟩ := hpre
    rw [← hb, List.append_assoc, List.singleton_append, bad_at _ a0 x b h1 h2]
    unfold CheckOut
    rw [if_neg h2]
    exact ⟨_, rfl, FaultAt.own h3 (grownBy_putObj' _ D (.deferred none)) (fun r e => by cases e; exact ⟨_, hK, rfl⟩), q2.trans (belowK_b (w := w) (Nat.le_refl _) W D _ _ (by omega) hK rfl rfl)⟩
end Go.Proofs.YtoilalffhmjhdaaGreatDoor.subst
