/- subst.parts: its closure hands a pattern's parts to a round each. -/
import Derived.Test.YtoilalffhmjhdaaGreatDoorSbParts
import Derived.RangeFuncBox
import Derived.RangeFuncLeaves
import Derived.RangeFuncNested
import Derived.RangeFuncBound
import Derived.RangeFuncCalls
import Derived.Shelf.Abstract
import Derived.OwnWalkIn
import Derived.TacticsInMore
import Derived.LoopNIn
import Derived.LoopIn
set_option linter.unusedSimpArgs false
set_option linter.unusedVariables false
namespace Go.Proofs.YtoilalffhmjhdaaGreatDoor.subst
open Go.RowKit Go.Shelf Go.Proofs.YtoilalffhmjhdaaGreatDoor.errs Go.Proofs.YtoilalffhmjhdaaGreatDoor.rows Go.Proofs.YtoilalffhmjhdaaGreatDoor.utf
attribute [local go_sem] Oper.semAt_some

/-- What a round keeps: the blocks of X, and all parts. -/
def KpP (X : List Nat) (W W' : World) : Prop := (∀ k ∈ X, W'.heap[k]? = W.heap[k]?) ∧ (∀ (k : Nat) (cs : Array Value), W.heap[k]? = some (Obj.cells cs 55 (0, 0)) → W'.heap[k]? = some (Obj.cells cs 55 (0, 0))) ∧ W.heap.size ≤ W'.heap.size
theorem KpP.refl (X : List Nat) (W : World) : KpP X W W := ⟨fun _ _ => rfl, fun _ _ h => h, Nat.le_refl _⟩
theorem KpP.trans {X : List Nat} {A B C : World} (h : KpP X A B) (k : KpP X B C) : KpP X A C := ⟨fun i hi => (k.1 i hi).trans (h.1 i hi), fun i cs hi => k.2.1 i cs (h.2.1 i cs hi), Nat.le_trans h.2.2 k.2.2⟩
theorem KpP.of_below {X : List Nat} {A B : World} (h : Keeps A B) (hX : ∀ k ∈ X, k < A.heap.size) : KpP X A B := ⟨fun k hk => h.block k (hX k hk), fun k cs hk => (h.block k (Array.getElem?_eq_some_iff.1 hk).1).trans hk, h.size⟩
theorem KpP.cell {X : List Nat} {A B : World} (h : KpP X A B) {k : Nat} (hk : k ∈ X) (o : Nat) : B.cell? ⟨k, o, none⟩ = A.cell? ⟨k, o, none⟩ := World.cell?_of_block (a := ⟨k, o, none⟩) (h.1 k hk)
theorem drop_T (l : List UInt8) (i : Nat) (h : i ≤ l.length) : (T l).extract i (T l).size = T (l.drop i) := by
  apply ByteArray.ext
  apply Array.toList_inj.1
  show ((T l).extract i _).data.toList = l.drop i
  rw [ByteArray.data_extract, Array.toList_extract, List.extract_eq_take_drop]
  show (l.drop i).take (l.length - i) = _
  rw [List.take_of_length_le (by rw [List.length_drop]; omega)]

/-- The maker of the iterator: the pattern is boxed; the function value captures the box. -/
theorem parts_any (s : ByteArray) (w : World) : Calls Tryz.prog 25 #[.string s] w fun e w' => e = .returned (.func (.func 44) #[] #[.pointer (some ⟨w.heap.size, 0, none⟩)]) ∧ w.alloc (.cells #[.string s] 9) = w' := by
  go_enter Tryz.func25, Tryz.ntmps25
  go_wp2_with fail
  go_ret
  exact ⟨rfl, rfl⟩

def IterOut (l : List UInt8) (J Jx : List (Nat × Pt) → World → Prop) (e : Ending) (W' : World) : Prop := (∃ v, e = .returned v) ∧ ((∃ ys, ys = partsOf l ∧ J ys W') ∨ (∃ pre, pre <+: partsOf l ∧ Jx pre W'))
abbrev encP (x : Nat × Pt) : Array Value := #[Value.int .i64 (x.1 : Int), .agg #[.int .i64 (x.2.kind : Int), .string (T x.2.tx), .string (T x.2.name)]]
set_option maxRecDepth 100000 in
set_option maxHeartbeats 4000000 in
theorem iter1 (n : Nat) (hn : 1 ≤ n) (y Bs : Nat) (X : List Nat) (l : List UInt8) (hl : l.length ≤ 1000000) (hBX : Bs ∈ X) (hMX : 2 ∈ X) (J Jx : List (Nat × Pt) → World → Prop)
    (hY : ∀ pre x W, J pre W → pre.length < l.length → YieldAt Fence.wide (n - 1) Tryz.prog y (encP x) W fun e W' =>
      (e = .returned (.bool true) ∧ J (pre ++ [x]) W' ∧ KpP X W W') ∨ (e = .returned (.bool false) ∧ Jx (pre ++ [x]) W'))
    (W : World) (hJ : AbidesFrom W.heap.size J) (hXl : ∀ k ∈ X, k < W.heap.size) (hBs : W.cell? ⟨Bs, 0, none⟩ = some (.string (T l))) (hM : MaxL W) (h0 : J [] W) :
    CallsIn Fence.wide n Tryz.prog 44 #[.func (.yield y) #[] #[], .pointer (some ⟨Bs, 0, none⟩)] W fun e W' => IterOut l J Jx e W' := by
  refine callsIn_of_wp Tryz.func44 rfl trivial ?_ rfl
  simp only [Tryz.ntmps44, List.size_toArray, List.length_cons, List.length_nil, Nat.reduceAdd, Nat.reduceSub, Array.replicate_succ, Array.replicate_zero, List.push_toArray, List.append_toArray, List.nil_append, List.cons_append]
  gi_wp2
  gi_loopw [3] (fun i wr => ∃ (g pos : Nat) (pre : List (Nat × Pt)), i = .int .i64 (pos : Int) ∧ pos ≤ l.length ∧ l.length ≤ pos + g ∧ pre.length ≤ pos ∧ Hid (pre ++ partsF g pos (l.drop pos) = partsOf l) ∧ J pre wr ∧ KpP X W wr ∧ W.heap.size ≤ wr.heap.size)
    (fun i _ => (l.length - (intOf i).toNat))
  case atStart => exact ⟨l.length, 0, [], rfl, Nat.zero_le _, by omega, Nat.le_refl _, rfl, h0, KpP.refl _ _, Nat.le_refl _⟩
  case round =>
    obtain ⟨g, pos, pre, rfl, hp, hg, hpl, hpre, hJs, hK, hsz⟩ := hrel
    have hbx : wr.cell? ⟨Bs, 0, none⟩ = some (.string (T l)) := (hK.cell hBX 0).trans hBs
    have hTs : ((T l).size : Int) = (l.length : Int) := rfl
    by_cases hlt : pos < l.length
    · obtain ⟨g, rfl⟩ : ∃ g', g = g' + 1 := ⟨g - 1, by omega⟩
      have hne : l.drop pos ≠ [] := fun e => by have := congrArg List.length e; rw [List.length_drop] at this; simp at this; omega
      have hst := parts_step g pos hne
      obtain ⟨f1, f2, f3⟩ := first_pos hne
      have hMw : MaxL wr := by obtain ⟨m, hm⟩ := hM; exact ⟨m, (hK.cell hMX 0).trans hm⟩
      have F : Calls Tryz.prog 45 #[.string (T (l.drop pos))] wr fun e w' => e = .returned (.agg #[.int .i64 ((firstP (l.drop pos)).kind : Int), .string (T (firstP (l.drop pos)).text), .string (T (firstP (l.drop pos)).name)]) ∧ Below wr.heap.size wr w' := first_any (l.drop pos) (by rw [List.length_drop]; omega) wr hMw
      have hdr := drop_T l pos hp
      rw [List.length_drop] at f3
      rw [List.drop_drop] at hst
      generalize firstP (l.drop pos) = p at *
      have y0 : (0 : Int) ≤ (pos : Int) := by omega
      have y1 : (pos : Int) < ((T l).size : Int) := by rw [hTs]; omega
      have y2 : (pos : Int) ≤ ((T l).size : Int) := by omega
      have hXw : Hid (∀ k ∈ X, k < wr.heap.size) := fun k hk => Nat.lt_of_lt_of_le (hXl k hk) hsz
      have HK := Lib.hid hK
      have HJ := Lib.hid hJs
      have HP := Lib.hid (⟨f1, f2, f3⟩ : _ ∧ _ ∧ _)
      have HST := Lib.hid hst
      have HDR := Lib.hid hdr
      clear hst hdr f1 f2 f3 hne hMw hK hJs hTs
      gi_wp2_with fail
      rw [HDR.out]
      refine ⟨trivial, CallsIn.mono (callsIn_wide.2 F) ?_⟩; rintro e w1 ⟨rfl, hb⟩
      have hk2 : Keeps wr (w1.alloc (.cells #[.int .i64 (p.kind : Int), .string (T p.text), .string (T p.name)] 55)) := Below.alloc hb hb.size _
      have J2 : J pre (w1.alloc (.cells #[.int .i64 (p.kind : Int), .string (T p.text), .string (T p.name)] 55)) := hJ pre wr _ none HJ.out (below_grown hk2 none) (fun r e => by cases e)
      have K2 : Hid (KpP X W (w1.alloc (.cells #[.int .i64 (p.kind : Int), .string (T p.text), .string (T p.name)] 55)) ∧ (w1.alloc (.cells #[.int .i64 (p.kind : Int), .string (T p.text), .string (T p.name)] 55)).heap[w1.heap.size]? = some (.cells #[.int .i64 (p.kind : Int), .string (T p.text), .string (T p.name)] 55 (0, 0)) ∧ W.heap.size ≤ w1.heap.size) :=
        ⟨HK.out.trans (KpP.of_below hk2 hXw.out), heap_alloc_new w1 _, Nat.le_trans hsz hb.size⟩
      obtain ⟨fn, tmps, assign, body, hy, hR⟩ := hY pre (pos, p) _ J2 (by omega)
      have etx : p.tx = p.text := List.take_of_length_le (by have := HP.out; omega)
      have hy : (Instr.yield y #[.int .i64 (pos : Int), .agg #[.int .i64 (p.kind : Int), .string (T p.tx), .string (T p.name)]]).run Tryz.prog _ = .ok (.round y fn tmps assign body) _ := hy
      rw [etx] at hy
      have hy : (Instr.yield y #[.int .i64 (pos : Int), .agg #[.int .i64 (p.kind : Int), .string (T p.text), .string (T p.name)]]).run Tryz.prog (w1.alloc (.cells #[.int .i64 (p.kind : Int), .string (T p.text), .string (T p.name)] 55)) = .ok (.round y fn tmps assign body) (w1.alloc (.cells #[.int .i64 (p.kind : Int), .string (T p.text), .string (T p.name)] 55)) := hy
      have HR := Lib.hid hR
      clear J2 hb hk2 F hR
      gi_wp2_with fail
      refine HR.out.mono ?_
      rintro e W3 (⟨rfl, hJ3, hk3⟩ | ⟨rfl, hJx3⟩)
      · have tl : ((T p.text).size : Int) = (p.text.length : Int) := rfl
        have c3 : W3.cell? ⟨w1.heap.size, 1, none⟩ = some (.string (T p.text)) := cell_of_heap (hk3.2.1 _ _ K2.out.2.1) rfl
        have K3 : Hid (KpP X W W3) := K2.out.1.trans hk3
        have J3 := Lib.hid hJ3
        have b1 : (p.text.length : Int) ≤ 1000000 := by have := HP.out.2.2; omega
        have b2 : (pos : Int) ≤ 1000000 := by omega
        clear hk3 hJ3
        gi_wp2_with fail
        go_roundw
        case rel => exact ⟨g, pos + p.text.length, pre ++ [(pos, p)], by go_num, by have := HP.out; omega, by have := HP.out; omega, by have := HP.out; simp; omega, by show _ = _; rw [← hpre.out, HST.out, List.append_assoc]; rfl, J3.out, K3.out, K3.out.2.2⟩
        case measure => simp [intOf]; have := HP.out; omega
      · gi_wp2
        refine bodyPost_ret (results_none rfl _ _ _) rfl ?_
        refine ⟨⟨_, rfl⟩, .inr ⟨_, ⟨partsF g (pos + p.text.length) (l.drop (pos + p.text.length)), ?_⟩, hJx3⟩⟩
        rw [← hpre.out, HST.out, List.append_assoc]; rfl
    · have hx : ¬ (pos : Int) < ((T l).size : Int) := by rw [hTs]; omega
      have V : Hid (pre = partsOf l) := by
        have := hpre.out
        rw [List.drop_eq_nil_of_le (by omega), parts_end, List.append_nil] at this
        exact this
      gi_wp2
      go_end0
      exact ⟨⟨_, rfl⟩, .inl ⟨pre, V.out, hJs⟩⟩

/-- What parts hands back stops. -/
theorem parts_stops (n : Nat) (hn : 1 ≤ n) (Bs : Nat) (X : List Nat) (l : List UInt8) (hl : l.length ≤ 1000000) (w : World) (hBX : Bs ∈ X) (hMX : 2 ∈ X) (hXl : ∀ k ∈ X, k < w.heap.size) (hBs : w.cell? ⟨Bs, 0, none⟩ = some (.string (T l))) (hM : MaxL w) :
    SeqStopsK Fence.wide n Tryz.prog 44 #[.pointer (some ⟨Bs, 0, none⟩)] encP (KpP X) (fun ys => ys = partsOf l) (fun pre => pre <+: partsOf l) l.length w := fun y J Jx W hW hJ _ hY h0 =>
  iter1 n hn y Bs X l hl hBX hMX J Jx hY W hJ (fun k hk => Nat.lt_of_lt_of_le (hXl k hk) hW.size) ((hW.cell (p := ⟨Bs, 0, none⟩) (hXl Bs hBX)).trans hBs) (hM.below hW (Nat.le_refl _)) h0
end Go.Proofs.YtoilalffhmjhdaaGreatDoor.subst
