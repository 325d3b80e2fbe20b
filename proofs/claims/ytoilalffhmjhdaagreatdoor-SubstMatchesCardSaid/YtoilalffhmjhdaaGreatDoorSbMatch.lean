/- subst.Match: whether a text is in the language of a pattern with variables. -/
import Derived.Test.YtoilalffhmjhdaaGreatDoorSbChk
set_option linter.unusedSimpArgs false
set_option linter.unusedVariables false
namespace Go.Proofs.YtoilalffhmjhdaaGreatDoor.subst
open Go.RowKit Go.Shelf Go.Proofs.YtoilalffhmjhdaaGreatDoor.errs Go.Proofs.YtoilalffhmjhdaaGreatDoor.rows Go.Proofs.YtoilalffhmjhdaaGreatDoor.utf Go.Proofs.YtoilalffhmjhdaaGreatDoor.glref Go.Proofs.YtoilalffhmjhdaaGreatDoor.chars
attribute [local go_sem] Oper.semAt_some

def pcOf (fold : Bool) (vs : List Vr) (x : Nat × Pt) : Pc := if x.2.kind = 1 then varPc fold vs x.2.name else .pat ((all (T x.2.tx)).map (fo fold))
def chs (fold : Bool) (s : ByteArray) : List Int := (all s).map (fo fold)
def fits (fold : Bool) (l : List UInt8) (vs : List Vr) (s : ByteArray) : Bool := (endsL (chs fold s) ((partsOf l).map (pcOf fold vs)) [0]).contains (chs fold s).length
def matchS (fold : Bool) (l : List UInt8) (vs : List Vr) (s : ByteArray) : Bool := decide ((checkS l vs).1 = 0) && (firstBad s).isNone && fits fold l vs s

theorem check_s (l : List UInt8) (vs : List Vr) (v : Value) (w : World) (hl : l.length ≤ 1000000) (hT : Tabs w) (hM : MaxL w) (hK : Clss w) (hv : VarsIn w v vs) (hvn : vs.length ≤ 1000001) :
    Calls Tryz.prog 8 #[.string (T l), v] w fun e w' => CheckOut (checkS l vs) w e w' := by
  unfold checkS
  by_cases h : (checkOf (T l)).1 = 0
  · rw [if_pos h]
    exact scheck_parts l vs v w hl hT hM hK hv hvn (decide_eq_true h)
  · rw [if_neg h]
    obtain ⟨a, cap, rfl⟩ := hv.form
    refine (scheck_glob l a _ cap w hl hT (decide_eq_false h)).mono ?_
    intro e w' q
    unfold CheckOut
    rw [if_neg h]
    exact q

set_option maxRecDepth 100000 in
set_option maxHeartbeats 4000000 in
theorem match_wrong (fold : Bool) (l : List UInt8) (vs : List Vr) (v : Value) (s : ByteArray) (w : World) (hl : l.length ≤ 1000000) (hT : Tabs w) (hM : MaxL w) (hK : Clss w) (hv : VarsIn w v vs) (hvn : vs.length ≤ 1000001) (hc : ¬ (checkS l vs).1 = 0) :
    Calls Tryz.prog 14 #[.string (T l), v, .string s, .bool fold] w fun e w' => e = .returned (.bool false) ∧ Below w.heap.size w w' := by
  obtain ⟨a, cap, rfl⟩ := hv.form
  obtain ⟨W0, hW0⟩ : ∃ W0, (w.alloc (.cells #[.slice a vs.length cap] 22)).alloc (.cells #[.bool false] 4) = W0 := ⟨_, rfl⟩
  have hB : Keeps w W0 := by rw [← hW0]; exact ((Below.refl _ _).alloc (Nat.le_refl _) _).alloc (by simp) _
  have C : Calls Tryz.prog 8 #[.string (T l), .slice a vs.length cap] W0 fun e w' => ∃ bb, e = .returned (.iface 58 (.pointer (some ⟨bb, 0, none⟩))) ∧ Below W0.heap.size W0 w' := by
    refine (check_s l vs _ W0 hl (hT.below hB (Nat.le_refl _)) (hM.below hB (Nat.le_refl _)) (hK.below hB (Nat.le_refl _)) (hv.below hB) hvn).mono ?_
    intro e w' q
    unfold CheckOut at q
    rw [if_neg hc] at q
    obtain ⟨bb, h1, h2⟩ := Failed.opened e w' q
    exact ⟨bb, h1, h2.out.2⟩
  have c0 : Boxed W0 (w.heap.size + 1) 4 (.bool false) := by
    rw [← hW0]
    have := Boxed.new (w.alloc (.cells #[.slice a vs.length cap] 22)) 4 (.bool false)
    rwa [World.size_alloc] at this
  have HW0 := Lib.hid hW0
  have HB := Lib.hid hB
  obtain ⟨n, hn⟩ : ∃ n, Hid (vs.length = n) := ⟨_, rfl⟩
  rw [hn.out] at C HW0 ⊢
  clear hW0 hB hT hM hK hv hvn hc hl
  refine (callsIn_wide (n := 4)).1 ?_
  refine callsIn_of_wp_marks Tryz.func14 rfl trivial ?_ rfl
  simp only [Tryz.ntmps14, List.size_toArray, List.length_cons, List.length_nil, Nat.reduceAdd, Nat.reduceSub, Array.replicate_succ, Array.replicate_zero, List.push_toArray, List.append_toArray, List.nil_append, List.cons_append]
  gi_wp2_with fail
  rw [HW0.out]
  refine ⟨trivial, CallsIn.mono (callsIn_wide.2 C) ?_⟩; rintro e w1 ⟨bb, rfl, hb⟩
  have c1 : Boxed w1 (w.heap.size + 1) 4 (.bool false) := (hb.block _ c0.lt).trans c0
  have d0 := c1.cell
  have d1 := c1.frozen
  have HC := Lib.hid (⟨hb, c1⟩ : _ ∧ _)
  clear hb c1 c0
  gi_wp2_with fail
  refine ⟨trivial, ?_⟩
  gi_wp2_with fail
  refine ⟨.bool false, by simp [results, Tryz.f14, go_sem, d0], rfl, ?_⟩
  exact (HB.out.trans (HC.out.1.mono HB.out.size)).setCell (p := ⟨w.heap.size + 1, 0, none⟩) (by simp) _

theorem check_fine {l : List UInt8} {vs : List Vr} (hc : (checkS l vs).1 = 0) (v : Value) (w : World) (hl : l.length ≤ 1000000) (hT : Tabs w) (hM : MaxL w) (hK : Clss w) (hv : VarsIn w v vs) (hvn : vs.length ≤ 1000001) :
    Calls Tryz.prog 8 #[.string (T l), v] w fun e w' => e = .returned .nilIface ∧ Below w.heap.size w w' :=
  (check_s l vs v w hl hT hM hK hv hvn).mono fun e w' q => by unfold CheckOut at q; rwa [if_pos hc] at q
set_option maxRecDepth 100000 in
set_option maxHeartbeats 4000000 in
theorem match_text (fold : Bool) (l : List UInt8) (vs : List Vr) (v : Value) (s : ByteArray) (w : World) (hl : l.length ≤ 1000000) (hT : Tabs w) (hM : MaxL w) (hK : Clss w) (hv : VarsIn w v vs) (hvn : vs.length ≤ 1000001) (hs : s.size ≤ 1000000) (hc : (checkS l vs).1 = 0) (hf : (firstBad s).isNone = false) :
    Calls Tryz.prog 14 #[.string (T l), v, .string s, .bool fold] w fun e w' => e = .returned (.bool false) ∧ Below w.heap.size w w' := by
  obtain ⟨a, cap, rfl⟩ := hv.form
  obtain ⟨W0, hW0⟩ : ∃ W0, (w.alloc (.cells #[.slice a vs.length cap] 22)).alloc (.cells #[.bool false] 4) = W0 := ⟨_, rfl⟩
  have hB : Keeps w W0 := by rw [← hW0]; exact ((Below.refl _ _).alloc (Nat.le_refl _) _).alloc (by simp) _
  have C := check_fine hc (.slice a vs.length cap) W0 hl (hT.below hB (Nat.le_refl _)) (hM.below hB (Nat.le_refl _)) (hK.below hB (Nat.le_refl _)) (hv.below hB) hvn
  have R : Hid (∀ w', Keeps W0 w' → Calls Tryz.prog 30 #[.string s] w' fun e w'' => e = .returned (.bool false) ∧ Below w'.heap.size w' w'') := fun w' h => by
    have := right_any s hs w' ((hT.below hB (Nat.le_refl _)).below h (Nat.le_refl _))
    rw [hf] at this
    exact this
  have c0 : Boxed W0 (w.heap.size + 1) 4 (.bool false) := by
    rw [← hW0]
    have := Boxed.new (w.alloc (.cells #[.slice a vs.length cap] 22)) 4 (.bool false)
    rwa [World.size_alloc] at this
  have HW0 := Lib.hid hW0
  have HB := Lib.hid hB
  obtain ⟨n, hn⟩ : ∃ n, Hid (vs.length = n) := ⟨_, rfl⟩
  rw [hn.out] at C HW0 ⊢
  clear hW0 hB hT hM hK hv hvn hc hl hf hs
  refine (callsIn_wide (n := 4)).1 ?_
  refine callsIn_of_wp_marks Tryz.func14 rfl trivial ?_ rfl
  simp only [Tryz.ntmps14, List.size_toArray, List.length_cons, List.length_nil, Nat.reduceAdd, Nat.reduceSub, Array.replicate_succ, Array.replicate_zero, List.push_toArray, List.append_toArray, List.nil_append, List.cons_append]
  gi_wp2_with fail
  rw [HW0.out]
  refine ⟨trivial, CallsIn.mono (callsIn_wide.2 C) ?_⟩; rintro e w1 ⟨rfl, hb⟩
  have R1 := R.out w1 hb
  have HC := Lib.hid hb
  have c1 : Boxed w1 (w.heap.size + 1) 4 (.bool false) := (hb.block _ c0.lt).trans c0
  clear hb c0
  gi_wp2_with fail
  refine ⟨trivial, CallsIn.mono (callsIn_wide.2 R1) ?_⟩; rintro e w2 ⟨rfl, hb⟩
  have c2 : Boxed w2 (w.heap.size + 1) 4 (.bool false) := (hb.block _ c1.lt).trans c1
  have d0 := c2.cell
  have d1 := c2.frozen
  have HD := Lib.hid hb
  clear hb c2 c1
  gi_wp2_with fail
  refine ⟨.bool false, by simp [results, Tryz.f14, go_sem, d0], rfl, ?_⟩
  exact ((HB.out.trans (HC.out.mono HB.out.size)).trans (HD.out.mono (Nat.le_trans HB.out.size HC.out.size))).setCell (p := ⟨w.heap.size + 1, 0, none⟩) (by simp) _

/-- What holds between two parts. -/
def MatI (w : World) (N B hb kb rb rcap ps : Nat) (pt : ByteArray) (fold : Bool) (X : List Int) (vv : Value) (pc : Nat × Pt → Pc) (pre : List (Nat × Pt)) (W : World) : Prop :=
  ∃ hv, Boxed W hb 68 hv ∧ Nats W B hv (endsL X (pre.map pc) [0]) ∧ W.heap[kb]? = some (Obj.cells #[.slice (some ⟨rb, 0, none⟩) X.length rcap, .bool fold] 66 (0, 0)) ∧ Boxed W w.heap.size 22 vv ∧ Boxed W (w.heap.size + 1) 4 (.bool false) ∧ Below w.heap.size w W ∧ N ≤ W.heap.size ∧ Chs W rb rcap X ∧ Boxed W ps 9 (.string pt)
def MatX (w : World) (X : List Int) (pc : Nat × Pt → Pc) (c : Code) (pre : List (Nat × Pt)) (W : World) : Prop :=
  ((c = .ret ∧ endsL X (pre.map pc) [0] = []) ∧ Boxed W (w.heap.size + 1) 4 (.bool false)) ∧ Below w.heap.size w W
theorem nats_own {B : Nat} {v : Value} {L : List Nat} {X Y : World} {row : Option Nat} (hs : Nats X B v L) (hg : X.grownBy Y row) (hr : ∀ r, row = some r → ∃ o : Obj, X.heap[r]? = some o ∧ o.isCells = false) : Nats Y B v L := by
  cases row with
  | none =>
    refine World.ownsRow.kept hs hg ?_
    rcases hs.form with ⟨rfl, -⟩ | ⟨g, cap, cur, rfl, -⟩
    · exact .inl rfl
    · exact .inr (fun e => by cases e)
  | some r =>
    refine World.ownsRow.kept hs hg (.inr fun e => ?_)
    obtain ⟨o, ho, hc⟩ := hr r rfl
    exact own_not hs ho (fun cs e' => by subst e'; cases hc) e
theorem matI_own {w : World} {N B hb kb rb rcap ps : Nat} {pt : ByteArray} {fold : Bool} {X : List Int} {vv : Value} {pc : Nat × Pt → Pc} {B' : Nat} (hB : w.heap.size ≤ B') : OwnFrom B' (MatI w N B hb kb rb rcap ps pt fold X vv pc) := by
  rintro s P Q row ⟨hv, h1, h2, h3, h4, h5, h6, h7, h8, h9⟩ hg hr
  refine ⟨hv, boxed_own hb 68 (fun (_ : Unit) => hv) () P Q row h1 hg (fun r e => (hr r e).2), nats_own h2 hg (fun r e => (hr r e).2), heap_own kb (fun (_ : Unit) => #[.slice (some ⟨rb, 0, none⟩) X.length rcap, .bool fold]) 66 B' () P Q row h3 hg hr, boxed_own w.heap.size 22 (fun (_ : Unit) => vv) () P Q row h4 hg (fun r e => (hr r e).2), boxed_own (w.heap.size + 1) 4 (fun (_ : Unit) => Value.bool false) () P Q row h5 hg (fun r e => (hr r e).2), ownFrom_below (β := Unit) (Nat.le_refl _) hB () P Q row h6 hg hr, Nat.le_trans h7 hg.size, ⟨h8.1, h8.2.1, Nat.lt_of_lt_of_le h8.2.2.1 hg.size, fun j hj => cell_kept (h8.2.2.2 j hj) hg (fun r e => (hr r e).2)⟩, boxed_own ps 9 (fun (_ : Unit) => Value.string pt) () P Q row h9 hg (fun r e => (hr r e).2)⟩
theorem matX_own {w : World} {X : List Int} {pc : Nat × Pt → Pc} {B' : Nat} (hB : w.heap.size ≤ B') (c : Code) : OwnFrom B' (MatX w X pc c) :=
  OwnFrom.and (OwnFrom.and (ownFrom_pure _ _) (Own.from (boxed_own _ _ _) _)) (ownFrom_below (Nat.le_refl _) hB)

theorem step_keeps {W w5 : World} {B : Nat} {hv : Value} {L : List Nat} (h : Nats W B hv L) (n2 : W.grownBy w5 hv.ownBlock) {k : Nat} {o : Obj} (hk : W.heap[k]? = some o) (ho : ∀ cs, o ≠ .cells cs 3 (0, 0)) : w5.heap[k]? = some o :=
  (n2.block k (Array.getElem?_eq_some_iff.1 hk).1 (fun e => own_not h hk ho e.symm)).trans hk
/-- A round that stores what it has found. -/
theorem mat_step {w W w5 : World} {N B hb kb rb rcap ps : Nat} {pt : ByteArray} {fold : Bool} {X : List Int} {vv hv v5 : Value} {L L' : List Nat} (hB : w.heap.size ≤ B) (hr : rb < B) (hh : B < hb) (hM : 2 < w.heap.size)
    (h1 : Boxed W hb 68 hv) (h2 : Nats W B hv L) (h3 : W.heap[kb]? = some (Obj.cells #[.slice (some ⟨rb, 0, none⟩) X.length rcap, .bool fold] 66 (0, 0))) (h4 : Boxed W w.heap.size 22 vv) (h5 : Boxed W (w.heap.size + 1) 4 (.bool false)) (h6 : Below w.heap.size w W) (h7 : N ≤ W.heap.size) (h8 : Chs W rb rcap X) (h9 : Boxed W ps 9 (.string pt))
    (n1 : Nats w5 B v5 L') (n2 : W.grownBy w5 hv.ownBlock) :
    Boxed (w5.setCell ⟨hb, 0, none⟩ v5) hb 68 v5 ∧ Nats (w5.setCell ⟨hb, 0, none⟩ v5) B v5 L' ∧ (w5.setCell ⟨hb, 0, none⟩ v5).heap[kb]? = some (Obj.cells #[.slice (some ⟨rb, 0, none⟩) X.length rcap, .bool fold] 66 (0, 0)) ∧ Boxed (w5.setCell ⟨hb, 0, none⟩ v5) w.heap.size 22 vv ∧ Boxed (w5.setCell ⟨hb, 0, none⟩ v5) (w.heap.size + 1) 4 (.bool false) ∧ Below w.heap.size w (w5.setCell ⟨hb, 0, none⟩ v5) ∧ N ≤ (w5.setCell ⟨hb, 0, none⟩ v5).heap.size ∧ Chs (w5.setCell ⟨hb, 0, none⟩ v5) rb rcap X ∧ Boxed (w5.setCell ⟨hb, 0, none⟩ v5) ps 9 (.string pt) ∧
      KeepsFrom N W (w5.setCell ⟨hb, 0, none⟩ v5) ∧ KpP [ps, 2] W (w5.setCell ⟨hb, 0, none⟩ v5) := by
  have K : ∀ {k : Nat} {o : Obj}, W.heap[k]? = some o → (∀ cs, o ≠ .cells cs 3 (0, 0)) → w5.heap[k]? = some o := fun hk ho => step_keeps h2 n2 hk ho
  have b5 : Boxed w5 hb 68 hv := K h1 (fun cs e => by cases e)
  have far : ∀ k, k ≠ hb → (w5.setCell ⟨hb, 0, none⟩ v5).heap[k]? = w5.heap[k]? := fun k hk => Below.heap_setCell w5 _ _ k hk
  have ne : ∀ {k : Nat} {o : Obj}, W.heap[k]? = some o → (∀ cs, o ≠ .cells cs 68 (0, 0)) → k ≠ hb := fun hk ho e => by
    rw [e, show W.heap[hb]? = _ from h1] at hk
    exact ho _ (Option.some.inj hk).symm
  have sz : (w5.setCell ⟨hb, 0, none⟩ v5).heap.size = w5.heap.size := by simp [World.setCell]
  refine ⟨b5.set v5, World.ownsRow.kept n1 (grownBy_setCell' w5 hb v5) (.inr (own_not n1 b5 (fun cs e => by cases e))), ?_, ?_, ?_, ?_, by rw [sz]; exact Nat.le_trans h7 n2.size, ?_, ?_, ?_, ?_⟩
  · rw [far kb (ne h3 (fun cs e => by cases e))]; exact K h3 (fun cs e => by cases e)
  · show _ = _
    rw [far _ (by omega)]; exact K h4 (fun cs e => by cases e)
  · show _ = _
    rw [far _ (ne h5 (fun cs e => by cases e))]; exact K h5 (fun cs e => by cases e)
  · exact (h6.grown n2 h6.size (fun k hk => by have := h2.ge hk; omega)).setCell (p := ⟨hb, 0, none⟩) (by show w.heap.size ≤ hb; omega) _
  · exact (h8.grown n2 (fun e => by have := h2.ge e; omega)).set (by omega) _
  · show _ = _
    rw [far _ (ne h9 (fun cs e => by cases e))]; exact K h9 (fun cs e => by cases e)
  · exact ⟨by rw [sz]; exact n2.size, fun k o _ hk ho => by
      rw [far k (ne hk (fun cs e => by subst e; cases ho))]
      exact K hk (fun cs e => by subst e; cases ho)⟩
  · refine ⟨fun k hk => ?_, fun k cs hk => ?_, by rw [sz]; exact n2.size⟩
    · rcases List.mem_cons.1 hk with rfl | hk
      · rw [far _ (ne h9 (fun cs e => by cases e)), show W.heap[k]? = _ from h9]; exact K h9 (fun cs e => by cases e)
      · rw [List.mem_singleton.1 hk, far _ (by omega)]
        exact n2.block _ (by have := h6.size; omega) (fun e => by have := h2.ge e.symm; omega)
    · rw [far k (ne hk (fun cs e => by cases e))]; exact K hk (fun cs e => by cases e)
set_option maxRecDepth 100000 in
set_option maxHeartbeats 8000000 in
theorem match_fine (fold : Bool) (l : List UInt8) (vs : List Vr) (v : Value) (s : ByteArray) (w : World) (hl : l.length ≤ 1000000) (hT : Tabs w) (hM : MaxL w) (hK : Clss w) (hv : VarsIn w v vs) (hvn : vs.length ≤ 1000000) (hz : ∀ x ∈ vs, x.vals.length ≤ 1000000 ∧ ∀ s ∈ x.vals, s.size ≤ 1000000) (hs : s.size ≤ 1000000) (hc : (checkS l vs).1 = 0) (hf : (firstBad s).isNone = true) :
    Calls Tryz.prog 14 #[.string (T l), v, .string s, .bool fold] w fun e w' => e = .returned (.bool (fits fold l vs s)) ∧ Below w.heap.size w w' := by
  obtain ⟨a, cap, rfl⟩ := hv.form
  obtain ⟨W0, hW0⟩ : ∃ W0, (w.alloc (.cells #[.slice a vs.length cap] 22)).alloc (.cells #[.bool false] 4) = W0 := ⟨_, rfl⟩
  have hB : Keeps w W0 := by rw [← hW0]; exact ((Below.refl _ _).alloc (Nat.le_refl _) _).alloc (by simp) _
  have C := check_fine hc (.slice a vs.length cap) W0 hl (hT.below hB (Nat.le_refl _)) (hM.below hB (Nat.le_refl _)) (hK.below hB (Nat.le_refl _)) (hv.below hB) (by omega)
  have R : Hid (∀ w', Keeps W0 w' → Calls Tryz.prog 30 #[.string s] w' fun e w'' => e = .returned (.bool true) ∧ Below w'.heap.size w' w'') := fun w' h => by
    have := right_any s hs w' ((hT.below hB (Nat.le_refl _)).below h (Nat.le_refl _))
    rw [hf] at this
    exact this
  have HO := Lib.hid fun w => hold_any s fold hs w
  have c0 : Boxed W0 (w.heap.size + 1) 4 (.bool false) := by
    rw [← hW0]
    have := Boxed.new (w.alloc (.cells #[.slice a vs.length cap] 22)) 4 (.bool false)
    rwa [World.size_alloc] at this
  have e0 : Boxed W0 w.heap.size 22 (.slice a vs.length cap) := by rw [← hW0]; exact (Boxed.new w _ _).alloc _
  have HS := Lib.hid (⟨hT, hM, hK, hv, hvn, hz, hl⟩ : _ ∧ _ ∧ _ ∧ _ ∧ _ ∧ _ ∧ _)
  have hXl : Hid ((chs fold s).length ≤ 1000000) := by show (List.map _ _).length ≤ _; rw [List.length_map]; exact Nat.le_trans (all_le s) hs
  have HW0 := Lib.hid hW0
  have HB := Lib.hid hB
  have HE := Lib.hid (⟨c0, e0⟩ : _ ∧ _)
  unfold fits
  have HO : Hid (∀ w, Calls Tryz.prog 31 #[.string s, .bool fold] w fun e w' => HoldOut fold (chs fold s) w e w') := HO
  generalize chs fold s = X at *
  obtain ⟨n, hn⟩ : ∃ n, Hid (vs.length = n) := ⟨_, rfl⟩
  rw [hn.out] at C HW0 HE HS ⊢
  clear hW0 hB hT hM hK hv hvn hc hl hf hs c0 e0 hz
  refine (callsIn_wide (n := 4)).1 ?_
  refine callsIn_of_wp_marks Tryz.func14 rfl trivial ?_ rfl
  simp only [Tryz.ntmps14, List.size_toArray, List.length_cons, List.length_nil, Nat.reduceAdd, Nat.reduceSub, Array.replicate_succ, Array.replicate_zero, List.push_toArray, List.append_toArray, List.nil_append, List.cons_append]
  gi_wp2_with fail
  rw [HW0.out]
  refine ⟨trivial, CallsIn.mono (callsIn_wide.2 C) ?_⟩; rintro e w1 ⟨rfl, hb⟩
  have R1 := R.out w1 hb
  have HC := Lib.hid hb
  clear hb
  gi_wp2_with fail
  refine ⟨trivial, CallsIn.mono (callsIn_wide.2 R1) ?_⟩; rintro e w2 ⟨rfl, hb⟩
  have HD : Hid (Keeps W0 w2) := HC.out.trans (hb.mono HC.out.size)
  clear hb
  gi_wp2_with fail
  refine ⟨trivial, CallsIn.mono (callsIn_wide.2 (HO.out _)) ?_⟩; rintro e w3 ⟨rb, rcap, rfl, h3⟩
  have HE3 : Hid (Keeps W0 w3 ∧ Chs w3 rb rcap X) := ⟨HD.out.trans (h3.out.2.mono HD.out.size), h3.out.1⟩
  clear h3
  gi_wp2_with fail
  obtain ⟨V3, hV3⟩ : ∃ V3, ((w3.alloc (.cells #[.slice (some ⟨rb, 0, none⟩) X.length rcap, .bool fold] 66)).alloc (.cells #[.int .i64 0] 3)).alloc (.cells #[.slice (some ⟨w3.heap.size + 1, 0, none⟩) 1 1] 68) = V3 := ⟨_, rfl⟩
  have s1 : (w3.alloc (.cells #[.slice (some ⟨rb, 0, none⟩) X.length rcap, .bool fold] 66)).heap.size = w3.heap.size + 1 := World.size_alloc _ _
  have s2 : ((w3.alloc (.cells #[.slice (some ⟨rb, 0, none⟩) X.length rcap, .bool fold] 66)).alloc (.cells #[.int .i64 0] 3)).heap.size = w3.heap.size + 1 + 1 := by rw [World.size_alloc, s1]
  have s3 : V3.heap.size = w3.heap.size + 3 := by rw [← hV3, World.size_alloc, s2]
  have k3 : Keeps w3 V3 := by rw [← hV3]; exact (((Below.refl _ _).alloc (Nat.le_refl _) _).alloc (by rw [s1]; omega) _).alloc (by rw [s2]; omega) _
  have g1 : V3.heap[w3.heap.size]? = some (Obj.cells #[.slice (some ⟨rb, 0, none⟩) X.length rcap, .bool fold] 66 (0, 0)) := by
    rw [← hV3, Below.heap_alloc _ _ _ (by rw [s2]; omega), Below.heap_alloc _ _ _ (by rw [s1]; omega)]; exact heap_alloc_new w3 _
  have g2 : Nats V3 (w3.heap.size + 1) (.slice (some ⟨w3.heap.size + 1, 0, none⟩) 1 1) [0] := by
    refine ⟨rfl, .inr ⟨w3.heap.size + 1, 1, #[.int .i64 0], rfl, Nat.le_refl _, ?_, Nat.le_refl _, by decide, rfl, rfl⟩⟩
    rw [← hV3, Below.heap_alloc _ _ _ (by rw [s2]; omega)]
    have := heap_alloc_new (w3.alloc (.cells #[.slice (some ⟨rb, 0, none⟩) X.length rcap, .bool fold] 66)) (.cells #[.int .i64 0] 3)
    rwa [s1] at this
  have g3 : Boxed V3 (w3.heap.size + 1 + 1) 68 (.slice (some ⟨w3.heap.size + 1, 0, none⟩) 1 1) := by
    rw [← hV3]
    have := Boxed.new ((w3.alloc (.cells #[.slice (some ⟨rb, 0, none⟩) X.length rcap, .bool fold] 66)).alloc (.cells #[.int .i64 0] 3)) 68 (.slice (some ⟨w3.heap.size + 1, 0, none⟩) 1 1)
    rwa [s2] at this
  refine ⟨trivial, CallsIn.mono (callsIn_wide.2 (parts_any (T l) _)) ?_⟩; rintro e w4 ⟨rfl, rfl⟩
  gi_wp2_with fail
  obtain ⟨W1, hW1⟩ : ∃ W1, V3.alloc (.cells #[.string (T l)] 9) = W1 := ⟨_, rfl⟩
  rw [hW1]
  have k4 : Keeps V3 W1 := by rw [← hW1]; exact (Below.refl _ _).alloc (Nat.le_refl _) _
  have g4 : Boxed W1 (w3.heap.size + 3) 9 (.string (T l)) := by rw [← hW1, ← s3]; exact Boxed.new V3 _ _
  have s4 : W1.heap.size = w3.heap.size + 4 := by rw [← hW1, World.size_alloc, s3]
  have kw : Keeps W0 W1 := HE3.out.1.trans ((k3.trans (Below.mono k4 k3.size)).mono HE3.out.1.size)
  have B2 : Below w.heap.size w W1 := HB.out.trans (Below.mono kw HB.out.size)
  have C3 : Chs W1 rb rcap X := (HE3.out.2.below k3).below k4
  obtain ⟨m, hm⟩ := HS.out.2.1
  have hgl : 2 < w.heap.size := lt_of_cell hm
  have hw3 : w.heap.size + 1 < w3.heap.size := by have := HE.out.1.lt; have := HE3.out.1.size; omega
  have hrb : rb < w3.heap.size := HE3.out.2.2.2.1
  have hX : ∀ k ∈ [w3.heap.size + 3, 2], k < W1.heap.size := fun k hk => by
    rcases List.mem_cons.1 hk with rfl | hk
    · omega
    · rw [List.mem_singleton.1 hk]; omega
  have I0 : MatI w W1.heap.size (w3.heap.size + 1) (w3.heap.size + 1 + 1) w3.heap.size rb rcap (w3.heap.size + 3) (T l) fold X (.slice a n cap) (pcOf fold vs) [] W1 :=
    ⟨_, (k4.block _ g3.lt).trans g3, g2.kept k4, (k4.block _ (Array.getElem?_eq_some_iff.1 g1).1).trans g1, (kw.block _ HE.out.2.lt).trans HE.out.2, (kw.block _ HE.out.1.lt).trans HE.out.1, B2, Nat.le_refl _, C3, g4⟩
  have HI := Lib.hid (⟨s4, hw3, hrb, hgl, hX⟩ : _ ∧ _ ∧ _ ∧ _ ∧ _)
  have bs := g4.cell
  have bM : MaxL W1 := HS.out.2.1.below B2 (Nat.le_refl _)
  clear hV3 hW1 s1 s2 s3 k3 g1 g2 g3 k4 g4 kw C3 hm
  refine wpIn_rangeFunc_ownH rfl (by decide) (gf := 44) (lb := #[.pointer (some ⟨w3.heap.size + 3, 0, none⟩)]) rfl trivial (enters_of Tryz.func44 (by kernel_rfl) rfl)
    (parts_stops (4 - 1) (by decide) (w3.heap.size + 3) [w3.heap.size + 3, 2] l HS.out.2.2.2.2.2.2 W1 (List.mem_cons_self ..) (List.mem_cons_of_mem _ (List.mem_cons_self ..)) hX bs bM)
    (fun h k => h.trans k) (kp_put hX) (Below.refl _ _) (fun _ => rfl)
    (MatI w W1.heap.size (w3.heap.size + 1) (w3.heap.size + 1 + 1) w3.heap.size rb rcap (w3.heap.size + 3) (T l) fold X (.slice a n cap) (pcOf fold vs)) (MatX w X (pcOf fold vs)) (matI_own (by omega)) (fun c => matX_own (by omega) c) I0
    (fun x a' W => ∃ Bx, w3.heap.size + 1 + 1 < Bx ∧ W.heap[Bx]? = some (Obj.cells #[.int .i64 (x.2.kind : Int), .string (T x.2.tx), .string (T x.2.name)] 55 (0, 0)) ∧ a' = { tmps := #[.string (T l), .slice a n cap, .string s, .bool fold, undef, .pointer (some ⟨w.heap.size, 0, none⟩), undef, undef, .pointer (some ⟨w.heap.size + 1, 0, none⟩), .pointer (some ⟨w3.heap.size, 0, none⟩), .pointer (some ⟨w3.heap.size + 1 + 1, 0, none⟩), undef, .pointer (some ⟨Bx, 0, none⟩), .string (T l), .slice a n cap, .nilIface, .bool false, .bool false, .string s, .bool true, .bool false, .bool false, .string s, .bool fold, .agg #[.slice (some ⟨rb, 0, none⟩) X.length rcap, .bool fold], .slice (some ⟨w3.heap.size + 1, 0, none⟩) 1 1, .string (T l), .func (.func 44) #[] #[.pointer (some ⟨w3.heap.size + 3, 0, none⟩)], .int .i64 (x.1 : Int), .agg #[.int .i64 (x.2.kind : Int), .string (T x.2.tx), .string (T x.2.name)], undef, undef, undef, undef, undef, undef, undef, undef, undef, undef, undef, undef, undef, undef, undef, undef, undef, undef, undef, undef, undef, undef], defers := [] })
    (fun x a' s X Y row hs hg hr => by obtain ⟨Bx, e1, e2, e3⟩ := hs; exact ⟨Bx, e1, heap_own Bx (fun (_ : Unit) => #[.int .i64 (x.2.kind : Int), .string (T x.2.tx), .string (T x.2.name)]) 55 W1.heap.size () X Y row e2 hg hr, e3⟩)
    ?assign ?body ?done ?stop
  case assign =>
    rintro y pre ⟨i, p⟩ W K ⟨hv, h1, h2, h3, h4, h5, h6, h7, h8, h9⟩ hK
    have l0 := h1.lt
    have hk : Keeps W (W.alloc (.cells #[.int .i64 (p.kind : Int), .string (T p.tx), .string (T p.name)] 55)) := (Below.refl _ _).alloc (Nat.le_refl _) _
    unfold encP
    gi_wp2
    exact hK _ _ (keepsFrom_of hk _) (KpP.of_below hk fun k hkk => Nat.lt_of_lt_of_le (hX k hkk) h7) ⟨hv, h1.alloc _, World.ownsRow.alloc h2 _, (hk.block _ (Array.getElem?_eq_some_iff.1 h3).1).trans h3, h4.alloc _, h5.alloc _, h6.alloc h6.size _, by simp; omega, h8.below hk, h9.alloc _⟩ ⟨W.heap.size, l0, heap_alloc_new W _, rfl⟩
  case body =>
    rintro y pre ⟨i, p⟩ a' W hl' ⟨r, hr⟩ ⟨hv, h1, h2, h3, h4, h5, h6, h7, h8, h9⟩ ⟨Bx, hBx, hX2, rfl⟩ hlt
    obtain ⟨q1, q2, q3, q4, q5⟩ := HI.out
    have hG : Hid (Good X.length (endsL X (pre.map (pcOf fold vs)) [0])) := ends_good _ (good_zero _)
    have PM : Hid (endsL X ((pre ++ [(i, p)]).map (pcOf fold vs)) [0] = (pcOf fold vs (i, p)).step X (endsL X (pre.map (pcOf fold vs)) [0])) := by
      show _ = _
      unfold endsL
      rw [List.map_append, List.foldl_append]; rfl
    have ST : Hid (∀ (w5 : World) (v5 : Value), Nats w5 (w3.heap.size + 1) v5 ((pcOf fold vs (i, p)).step X (endsL X (pre.map (pcOf fold vs)) [0])) → W.grownBy w5 hv.ownBlock → _) := fun w5 v5 n1 n2 => mat_step (w := w) (N := W1.heap.size) (hB := by omega) (hr := by omega) (hh := by omega) (hM := by omega) h1 h2 h3 h4 h5 h6 h7 h8 h9 n1 n2
    have c0 : W.cell? ⟨Bx, 0, none⟩ = some (.int .i64 (p.kind : Int)) := cell_of_heap hX2 rfl
    have c1 : W.cell? ⟨Bx, 1, none⟩ = some (.string (T p.tx)) := cell_of_heap hX2 rfl
    have c2 : W.cell? ⟨Bx, 2, none⟩ = some (.string (T p.name)) := cell_of_heap hX2 rfl
    have d0 : W.cell? ⟨w3.heap.size, 0, none⟩ = some (.slice (some ⟨rb, 0, none⟩) X.length rcap) := cell_of_heap h3 rfl
    have d1 : W.cell? ⟨w3.heap.size, 1, none⟩ = some (.bool fold) := cell_of_heap h3 rfl
    have d2 := h1.cell
    have d3 := h4.cell
    have HH := Lib.hid (⟨h1, h2, h3, h4, h5, h6, h7, h8⟩ : _ ∧ _ ∧ _ ∧ _ ∧ _ ∧ _ ∧ _ ∧ _)
    have WB := h6
    have CV : Hid (p.kind = 1 → Calls Tryz.prog 32 #[.agg #[.slice (some ⟨rb, 0, none⟩) X.length rcap, .bool fold], hv, .string (T p.name), .slice a n cap] W fun e w' => StepOut (w3.heap.size + 1) hv ((pcOf fold vs (i, p)).step X (endsL X (pre.map (pcOf fold vs)) [0])) W e w') := fun hk => by
      have e : pcOf fold vs (i, p) = varPc fold vs p.name := by unfold pcOf; rw [if_pos hk]
      rw [e]
      have hW : w3.heap.size + 1 ≤ W.heap.size := by omega
      cases hc : classOf p.name with
      | some c => exact var_cls X rb rcap fold _ hv _ p.name vs (w3.heap.size + 1) c W h8 (by omega) h2 hW hXl.out hG.out (HS.out.2.2.1.below h6 (Nat.le_refl _)) hc
      | none => exact (var_vals X rb rcap fold _ hv _ p.name vs W h8 h2.reads (HS.out.2.2.2.1.below h6) hXl.out hG.out HS.out.2.2.2.2.2.1 (by rw [hn.out]; exact HS.out.2.2.2.2.1) (HS.out.1.below h6 (Nat.le_refl _)) (HS.out.2.2.1.below h6 (Nat.le_refl _)) hc).mono fun e w' q => q.step hW
    have CP : Hid (¬ p.kind = 1 → (T p.tx).size ≤ 1000000 → Calls Tryz.prog 33 #[.agg #[.slice (some ⟨rb, 0, none⟩) X.length rcap, .bool fold], hv, .string (T p.tx)] W fun e w' => StepOut (w3.heap.size + 1) hv ((pcOf fold vs (i, p)).step X (endsL X (pre.map (pcOf fold vs)) [0])) W e w') := fun hk hz => by
      have e : pcOf fold vs (i, p) = .pat ((all (T p.tx)).map (fo fold)) := by unfold pcOf; rw [if_neg hk]
      rw [e]
      exact (pattern_any X rb rcap fold _ hv (T p.tx) W h8 h2.reads hXl.out hG.out hz).mono fun e w' q => q.step (by omega)
    have hz : (T p.tx).size ≤ 1000000 := by show (p.text.take 1000000).length ≤ _; rw [List.length_take]; omega
    have hhb : w.heap.size + 1 < w3.heap.size + 1 + 1 := by omega
    have D8 := HH.out.2.2.2.2.1.cell
    have F8 := HH.out.2.2.2.2.1.frozen
    have F2 := HH.out.1.frozen
    obtain ⟨xn, hxn⟩ : ∃ xn, Hid (X.length = xn) := ⟨_, rfl⟩
    rw [hxn.out] at CV CP d0
    generalize (pcOf fold vs (i, p)).step X (endsL X (pre.map (pcOf fold vs)) [0]) = L' at *
    clear h1 h2 h3 h4 h5 h6 h7 h8 h9 hX2 q1 q2 q3 q4 q5
    have END : Hid (∀ (w5 : World) (v5 : Value), Nats w5 (w3.heap.size + 1) v5 L' → W.grownBy w5 hv.ownBlock → (¬ L' = [] → ownPostG W1.heap.size (KpP [w3.heap.size + 3, 2]) (MatI w W1.heap.size (w3.heap.size + 1) (w3.heap.size + 1 + 1) w3.heap.size rb rcap (w3.heap.size + 3) (T l) fold X (.slice a n cap) (pcOf fold vs)) (MatX w X (pcOf fold vs)) (pre ++ [(i, p)]) W .normal { tmps := #[], defers := [] } (w5.setCell ⟨w3.heap.size + 1 + 1, 0, none⟩ v5)) ∧
        (L' = [] → KeepsFrom W1.heap.size W ((w5.setCell ⟨w3.heap.size + 1 + 1, 0, none⟩ v5).setCell ⟨w.heap.size + 1, 0, none⟩ (.bool false)) ∧ MatX w X (pcOf fold vs) .ret (pre ++ [(i, p)]) ((w5.setCell ⟨w3.heap.size + 1 + 1, 0, none⟩ v5).setCell ⟨w.heap.size + 1, 0, none⟩ (.bool false)))) := fun w5 v5 n1 n2 => by
      obtain ⟨m1, m2, m3, m4, m5, m6, m7, m8, m9, m10, m11⟩ := ST.out w5 v5 n1 n2
      refine ⟨fun _ => ⟨m10, m11, v5, m1, by rw [PM.out]; exact m2, m3, m4, m5, m6, m7, m8, m9⟩, fun e => ⟨m10.trans ((KeepsOthers.setCell _ _ _).from _), ⟨⟨rfl, by rw [PM.out]; exact e⟩, m5.set _⟩, m6.setCell (p := ⟨w.heap.size + 1, 0, none⟩) (by simp) _⟩⟩
    have KP : Hid (∀ (w5 : World), W.grownBy w5 hv.ownBlock → Boxed w5 (w3.heap.size + 1 + 1) 68 hv ∧ Boxed w5 (w.heap.size + 1) 4 (.bool false)) := fun w5 n2 => ⟨step_keeps HH.out.2.1 n2 HH.out.1 (fun cs e => by cases e), step_keeps HH.out.2.1 n2 HH.out.2.2.2.2.1 (fun cs e => by cases e)⟩
    clear s4 B2 WB D8 F8 F2 hw3 hrb hgl I0 bs bM
    by_cases k1 : p.kind = 1
    · have e1 : ((p.kind : Int) == 1) = true := by rw [beq_iff_eq]; omega
      have C := CV.out k1
      clear k1 CP CV
      gi_wp2_with fail
      refine ⟨trivial, CallsIn.mono (CallsIn.inRound y (callsIn_wide.2 C)) ?_⟩; rintro e w5 ⟨v5, rfl, n1, n2, -⟩
      obtain ⟨qa, qc, hv5⟩ : ∃ qa qc, v5 = .slice qa L'.length qc := by obtain ⟨qa, qc, e, -⟩ := n1.reads; exact ⟨qa, qc, e⟩
      subst hv5
      obtain ⟨g1, g2⟩ := KP.out w5 n2
      have x0 := g1.cell
      have x1 := g1.frozen
      have x2 := g2.cell
      have x3 := g2.frozen
      have ED := Lib.hid (END.out w5 _ n1 n2)
      obtain ⟨ln, hln⟩ : ∃ ln, Hid (L'.length = ln) := ⟨_, rfl⟩
      rw [hln.out] at ED ⊢
      clear n1 n2 g1 g2 C
      by_cases hl0 : ln = 0
      · have y0 : ((ln : Int) == 0) = true := by rw [beq_iff_eq]; omega
        have E := Lib.hid (ED.out.2 (List.length_eq_zero_iff.1 (hln.out.trans hl0)))
        clear hl0
        gi_wp2_with fail
        exact E.out
      · have y0 : ((ln : Int) == 0) = false := by rw [beq_eq_false_iff_ne]; omega
        have E := Lib.hid (ED.out.1 (fun e => hl0 (by rw [← hln.out, e]; rfl)))
        clear hl0
        gi_wp2_with fail
        exact E.out
    · have e1 : ((p.kind : Int) == 1) = false := by rw [beq_eq_false_iff_ne]; omega
      have C := CP.out k1 hz
      clear k1 CP CV
      gi_wp2_with fail
      refine ⟨trivial, CallsIn.mono (CallsIn.inRound y (callsIn_wide.2 C)) ?_⟩; rintro e w5 ⟨v5, rfl, n1, n2, -⟩
      obtain ⟨qa, qc, hv5⟩ : ∃ qa qc, v5 = .slice qa L'.length qc := by obtain ⟨qa, qc, e, -⟩ := n1.reads; exact ⟨qa, qc, e⟩
      subst hv5
      obtain ⟨g1, g2⟩ := KP.out w5 n2
      have x0 := g1.cell
      have x1 := g1.frozen
      have x2 := g2.cell
      have x3 := g2.frozen
      have ED := Lib.hid (END.out w5 _ n1 n2)
      obtain ⟨ln, hln⟩ : ∃ ln, Hid (L'.length = ln) := ⟨_, rfl⟩
      rw [hln.out] at ED ⊢
      clear n1 n2 g1 g2 C
      by_cases hl0 : ln = 0
      · have y0 : ((ln : Int) == 0) = true := by rw [beq_iff_eq]; omega
        have E := Lib.hid (ED.out.2 (List.length_eq_zero_iff.1 (hln.out.trans hl0)))
        clear hl0
        gi_wp2_with fail
        exact E.out
      · have y0 : ((ln : Int) == 0) = false := by rw [beq_eq_false_iff_ne]; omega
        have E := Lib.hid (ED.out.1 (fun e => hl0 (by rw [← hln.out, e]; rfl)))
        clear hl0
        gi_wp2_with fail
        exact E.out
  case done =>
    rintro D zs W hD rfl ⟨hv, h1, h2, h3, h4, h5, h6, h7, h8, h9⟩ hK
    have d0 : W.cell? ⟨w3.heap.size, 0, none⟩ = some (.slice (some ⟨rb, 0, none⟩) X.length rcap) := cell_of_heap h3 rfl
    have d2 := h1.cell
    have d5 := h5.cell
    have f5 := h5.frozen
    have hgd : Good X.length (endsL X ((partsOf l).map (pcOf fold vs)) [0]) := ends_good _ (good_zero _)
    have CT := contains_any _ X.length hv W h2.reads (by have := good_len hgd; have := hXl.out; omega)
    have HH := Lib.hid (⟨h1, h5, h6, hK⟩ : _ ∧ _ ∧ _ ∧ _)
    obtain ⟨res, hres⟩ : ∃ res, Hid ((endsL X ((partsOf l).map (pcOf fold vs)) [0]).contains X.length = res) := ⟨_, rfl⟩
    rw [hres.out] at CT
    clear h1 h2 h3 h4 h5 h6 h7 h8 h9 hgd s4 B2 I0 bs bM
    gi_wp2_with fail
    refine ⟨trivial, CallsIn.mono (callsIn_wide.2 CT) ?_⟩; rintro e w5 ⟨rfl, rfl⟩
    gi_wp2_with fail
    have hK' := (KeepsOthers.setCell W ⟨w.heap.size + 1, 0, none⟩ (.bool res)).same D _ HH.out.2.2.2 rfl
    refine ⟨by simp, .inl ⟨_, _, rfl, run_takeDeferred hK', ?_⟩⟩
    have hc5 := cell_kept (HH.out.2.1.set (.bool res)).cell (grownBy_putObj' _ D (.deferred none)) (fun r e => by cases e; exact ⟨_, hK', rfl⟩)
    refine ⟨.bool res, by simp [results, Tryz.f14, go_sem, hc5], by rw [hres.out], ?_⟩
    exact (HH.out.2.2.1.setCell (p := ⟨w.heap.size + 1, 0, none⟩) (by simp) _).trans (belowK_b (w := w) (Nat.le_refl _) _ D _ _ (by have := HI.out; omega) hK' rfl rfl)
  case stop =>
    rintro D c pre W hD hpre ⟨⟨⟨rfl, he⟩, q0⟩, q2⟩ hK
    obtain ⟨b, hb⟩ := hpre
    have V : Hid ((endsL X ((partsOf l).map (pcOf fold vs)) [0]).contains X.length = false) := by
      show _ = _
      rw [← hb, List.map_append]
      have : endsL X (List.map (pcOf fold vs) pre ++ List.map (pcOf fold vs) b) [0] = endsL X (List.map (pcOf fold vs) b) (endsL X (List.map (pcOf fold vs) pre) [0]) := List.foldl_append
      rw [this, he, ends_nil]
      rfl
    have HH := Lib.hid (⟨q0, q2, hK⟩ : _ ∧ _ ∧ _)
    clear he q0 q2 hb s4 B2 I0 bs bM
    gi_wp2_with fail
    refine ⟨by simp, .inl ⟨_, _, rfl, run_takeDeferred HH.out.2.2, ?_⟩⟩
    have hc5 := cell_kept HH.out.1.cell (grownBy_putObj' _ D (.deferred none)) (fun r e => by cases e; exact ⟨_, HH.out.2.2, rfl⟩)
    refine ⟨.bool false, by simp [results, Tryz.f14, go_sem, hc5], by rw [V.out], ?_⟩
    exact HH.out.2.1.trans (belowK_b (w := w) (Nat.le_refl _) W D _ _ (by have := HI.out; omega) HH.out.2.2 rfl rfl)

/-- **subst.Match, of any pattern, any variables and any text.** -/
theorem match_any (fold : Bool) (l : List UInt8) (vs : List Vr) (v : Value) (s : ByteArray) (w : World) (hl : l.length ≤ 1000000) (hT : Tabs w) (hM : MaxL w) (hK : Clss w) (hv : VarsIn w v vs) (hvn : vs.length ≤ 1000000) (hz : ∀ x ∈ vs, x.vals.length ≤ 1000000 ∧ ∀ s ∈ x.vals, s.size ≤ 1000000) (hs : s.size ≤ 1000000) :
    Calls Tryz.prog 14 #[.string (T l), v, .string s, .bool fold] w fun e w' => e = .returned (.bool (matchS fold l vs s)) ∧ Below w.heap.size w w' := by
  unfold matchS
  by_cases hc : (checkS l vs).1 = 0
  · rw [decide_eq_true hc, Bool.true_and]
    cases hf : (firstBad s).isNone with
    | true => exact match_fine fold l vs v s w hl hT hM hK hv hvn hz hs hc hf
    | false => exact match_text fold l vs v s w hl hT hM hK hv (by omega) hs hc hf
  · rw [decide_eq_false hc]
    exact match_wrong fold l vs v s w hl hT hM hK hv (by omega) hc
end Go.Proofs.YtoilalffhmjhdaaGreatDoor.subst
