/- subst.Names. -/
import Derived.Test.YtoilalffhmjhdaaGreatDoorSmAmong
import Derived.OwnWalkIn
import Derived.Stop.RegionWithIn
set_option linter.unusedSimpArgs false
set_option linter.unusedVariables false
namespace Go.Proofs.YtoilalffhmjhdaaGreatDoor.subst
open Go.RowKit Go.Shelf Go.Proofs.YtoilalffhmjhdaaGreatDoor.ref Go.Proofs.YtoilalffhmjhdaaGreatDoor.text Go.Proofs.YtoilalffhmjhdaaGreatDoor.errs Go.Proofs.YtoilalffhmjhdaaGreatDoor.rows Go.Proofs.YtoilalffhmjhdaaGreatDoor.utf Go.Proofs.YtoilalffhmjhdaaGreatDoor.glref Go.Proofs.YtoilalffhmjhdaaGreatDoor.chars
attribute [local go_sem] Oper.semAt_some

theorem clone_str (s : ByteArray) (hs : s.size ≤ 1000000) (w : World) : Calls Tryz.prog 29 #[.string s] w fun e w' => e = .returned (.string s) ∧ Below w.heap.size w w' := by
  have C := Tryz.stringslite_Clone s w (by omega)
  go_enter Tryz.func29, Tryz.ntmps29
  go_wp2_with fail
  refine C.mono ?_; rintro e w1 ⟨rfl, hb⟩
  have K := Lib.hid hb
  clear hb C
  go_wp2_with fail
  go_ret
  exact ⟨rfl, K.out⟩
/-- A part's name, of at most a million bytes. -/
def Pt.nm (p : Pt) : List UInt8 := p.name.take 1000000
theorem first_name (l : List UInt8) : (firstP l).name.length ≤ l.length := by
  unfold firstP
  split
  · split
    · show ((l.drop 2).take _).length ≤ _
      rw [List.length_take, List.length_drop]
      omega
    · exact Nat.zero_le _
  · exact Nat.zero_le _
theorem parts_name : ∀ (g i : Nat) (l : List UInt8), l.length ≤ 1000000 → ∀ x ∈ partsF g i l, x.2.nm = x.2.name
  | 0, i, l, _ => fun x hx => by cases hx
  | g + 1, i, l, hl => fun x hx => by
    by_cases h : l = []
    · rw [h, parts_end] at hx; cases hx
    · rw [parts_step g i h] at hx
      rcases List.mem_cons.1 hx with rfl | hx
      · exact List.take_of_length_le (Nat.le_trans (first_name l) hl)
      · exact parts_name g _ _ (by rw [List.length_drop]; omega) x hx
def namesN (ps : List (Nat × Pt)) : List ByteArray := (ps.filter fun x => x.2.kind == 1).map fun x => T x.2.nm
theorem namesN_all (l : List UInt8) (hl : l.length ≤ 1000000) : namesN (partsOf l) = namesOf (partsOf l) := by
  unfold namesN namesOf
  refine List.map_congr_left fun x hx => ?_
  rw [parts_name _ _ _ hl x (List.mem_filter.1 hx).1]
abbrev encN (x : Nat × Pt) : Array Value := #[Value.int .i64 (x.1 : Int), .agg #[.int .i64 (x.2.kind : Int), .string (T x.2.tx), .string (T x.2.nm)]]
set_option maxRecDepth 100000 in
set_option maxHeartbeats 4000000 in
theorem iterN (n : Nat) (hn : 1 ≤ n) (y Bs : Nat) (X : List Nat) (l : List UInt8) (hl : l.length ≤ 1000000) (hBX : Bs ∈ X) (hMX : 2 ∈ X) (J Jx : List (Nat × Pt) → World → Prop)
    (hY : ∀ pre x W, J pre W → pre.length < l.length → YieldAt Fence.wide (n - 1) Tryz.prog y (encN x) W fun e W' =>
      (e = .returned (.bool true) ∧ J (pre ++ [x]) W' ∧ KpP X W W') ∨ (e = .returned (.bool false) ∧ Jx (pre ++ [x]) W'))
    (W : World) (hJ : AbidesFrom W.heap.size J) (hXl : ∀ k ∈ X, k < W.heap.size) (hBs : W.cell? ⟨Bs, 0, none⟩ = some (.string (T l))) (hM : MaxL W) (h0 : J [] W) :
    CallsIn Fence.wide n Tryz.prog 44 #[.func (.yield y) #[] #[], .pointer (some ⟨Bs, 0, none⟩)] W fun e W' => IterOut l J Jx e W' := by
  refine callsIn_of_wp Tryz.func44 rfl trivial ?_ rfl
  simp only [Tryz.ntmps44, List.size_toArray, List.length_cons, List.length_nil, Nat.reduceAdd, Nat.reduceSub, Array.replicate_succ, Array.replicate_zero, List.push_toArray, List.append_toArray, List.nil_append, List.cons_append]
  gi_wp2
  gi_loopw [3] (fun i wr => ∃ (g pos : Nat) (pre : List (Nat × Pt)), i = .int .i64 (pos : Int) ∧ pos ≤ l.length ∧ l.length ≤ pos + g ∧ pre.length ≤ pos ∧ Hid (pre ++ partsF g pos (l.drop pos) = partsOf l) ∧ J pre wr ∧ KpP X W wr ∧ W.heap.size ≤ wr.heap.size)
    (fun i _ => (l.length - (intOf i).toNat))
  case atStart => exact ⟨l.length, 0, [], rfl, Nat.zero_le _, by omega, Nat.le_refl _, rfl, h0, KpP.refl _ _, Nat.le_refl _⟩
  case round =>
    obtain ⟨g, pos, pre, rfl, hp, hg, hpl, hpre, hJs, hK, hsz⟩ := hrel
    have hbx : wr.cell? ⟨Bs, 0, none⟩ = some (.string (T l)) := (hK.cell hBX 0).trans hBs
    have hTs : ((T l).size : Int) = (l.length : Int) := rfl
    by_cases hlt : pos < l.length
    · obtain ⟨g, rfl⟩ : ∃ g', g = g' + 1 := ⟨g - 1, by omega⟩
      have hne : l.drop pos ≠ [] := fun e => by have := congrArg List.length e; rw [List.length_drop] at this; simp at this; omega
      have hst := parts_step g pos hne
      obtain ⟨f1, f2, f3⟩ := first_pos hne
      have f4 := first_name (l.drop pos)
      have hMw : MaxL wr := by obtain ⟨m, hm⟩ := hM; exact ⟨m, (hK.cell hMX 0).trans hm⟩
      have F : Calls Tryz.prog 45 #[.string (T (l.drop pos))] wr fun e w' => e = .returned (.agg #[.int .i64 ((firstP (l.drop pos)).kind : Int), .string (T (firstP (l.drop pos)).text), .string (T (firstP (l.drop pos)).name)]) ∧ Below wr.heap.size wr w' := first_any (l.drop pos) (by rw [List.length_drop]; omega) wr hMw
      have hdr := drop_T l pos hp
      rw [List.length_drop] at f3 f4
      rw [List.drop_drop] at hst
      generalize firstP (l.drop pos) = p at *
      have y0 : (0 : Int) ≤ (pos : Int) := by omega
      have y1 : (pos : Int) < ((T l).size : Int) := by rw [hTs]; omega
      have y2 : (pos : Int) ≤ ((T l).size : Int) := by omega
      have hXw : Hid (∀ k ∈ X, k < wr.heap.size) := fun k hk => Nat.lt_of_lt_of_le (hXl k hk) hsz
      have HK := Lib.hid hK
      have HJ := Lib.hid hJs
      have HP := Lib.hid (⟨f1, f2, f3⟩ : _ ∧ _ ∧ _)
      have HP4 := Lib.hid f4
      have HST := Lib.hid hst
      have HDR := Lib.hid hdr
      clear hst hdr f1 f2 f3 f4 hne hMw hK hJs hTs
      gi_wp2_with fail
      rw [HDR.out]
      refine ⟨trivial, CallsIn.mono (callsIn_wide.2 F) ?_⟩; rintro e w1 ⟨rfl, hb⟩
      have hk2 : Keeps wr (w1.alloc (.cells #[.int .i64 (p.kind : Int), .string (T p.text), .string (T p.name)] 55)) := Below.alloc hb hb.size _
      have J2 : J pre (w1.alloc (.cells #[.int .i64 (p.kind : Int), .string (T p.text), .string (T p.name)] 55)) := hJ pre wr _ none HJ.out (below_grown hk2 none) (fun r e => by cases e)
      have K2 : Hid (KpP X W (w1.alloc (.cells #[.int .i64 (p.kind : Int), .string (T p.text), .string (T p.name)] 55)) ∧ (w1.alloc (.cells #[.int .i64 (p.kind : Int), .string (T p.text), .string (T p.name)] 55)).heap[w1.heap.size]? = some (.cells #[.int .i64 (p.kind : Int), .string (T p.text), .string (T p.name)] 55 (0, 0)) ∧ W.heap.size ≤ w1.heap.size) :=
        ⟨HK.out.trans (KpP.of_below hk2 hXw.out), heap_alloc_new w1 _, Nat.le_trans hsz hb.size⟩
      obtain ⟨fn, tmps, assign, body, hy, hR⟩ := hY pre (pos, p) _ J2 (by omega)
      have etx : p.tx = p.text := List.take_of_length_le (by have := HP.out; omega)
      have etn : p.nm = p.name := List.take_of_length_le (by have := HP4.out; omega)
      have hy : (Instr.yield y #[.int .i64 (pos : Int), .agg #[.int .i64 (p.kind : Int), .string (T p.tx), .string (T p.nm)]]).run Tryz.prog _ = .ok (.round y fn tmps assign body) _ := hy
      rw [etx, etn] at hy
      have hy : (Instr.yield y #[.int .i64 (pos : Int), .agg #[.int .i64 (p.kind : Int), .string (T p.text), .string (T p.name)]]).run Tryz.prog (w1.alloc (.cells #[.int .i64 (p.kind : Int), .string (T p.text), .string (T p.name)] 55)) = .ok (.round y fn tmps assign body) (w1.alloc (.cells #[.int .i64 (p.kind : Int), .string (T p.text), .string (T p.name)] 55)) := hy
      have HR := Lib.hid hR
      clear J2 hb hk2 F hR
      gi_wp2_with fail
      refine HR.out.mono ?_
      rintro e W3 (⟨rfl, hJ3, hk3⟩ | ⟨rfl, hJx3⟩)
      · have tl : ((T p.text).size : Int) = (p.text.length : Int) := rfl
        have c3 : W3.cell? ⟨w1.heap.size, 1, none⟩ = some (.string (T p.text)) := cell_of_heap (hk3.2.1 _ _ K2.out.2.1) rfl
        have K3 : Hid (KpP X W W3) := K2.out.1.trans hk3
        have J3 := Lib.hid hJ3
        have b1 : (p.text.length : Int) ≤ 1000000 := by have := HP.out.2.2; omega
        have b2 : (pos : Int) ≤ 1000000 := by omega
        clear hk3 hJ3
        gi_wp2_with fail
        go_roundw
        case rel => exact ⟨g, pos + p.text.length, pre ++ [(pos, p)], by go_num, by have := HP.out; omega, by have := HP.out; omega, by have := HP.out; simp; omega, by show _ = _; rw [← hpre.out, HST.out, List.append_assoc]; rfl, J3.out, K3.out, K3.out.2.2⟩
        case measure => simp [intOf]; have := HP.out; omega
      · gi_wp2
        refine bodyPost_ret (results_none rfl _ _ _) rfl ?_
        refine ⟨⟨_, rfl⟩, .inr ⟨_, ⟨partsF g (pos + p.text.length) (l.drop (pos + p.text.length)), ?_⟩, hJx3⟩⟩
        rw [← hpre.out, HST.out, List.append_assoc]; rfl
    · have hx : ¬ (pos : Int) < ((T l).size : Int) := by rw [hTs]; omega
      have V : Hid (pre = partsOf l) := by
        have := hpre.out
        rw [List.drop_eq_nil_of_le (by omega), parts_end, List.append_nil] at this
        exact this
      gi_wp2
      go_end0
      exact ⟨⟨_, rfl⟩, .inl ⟨pre, V.out, hJs⟩⟩

theorem parts_stopsN (n : Nat) (hn : 1 ≤ n) (Bs : Nat) (X : List Nat) (l : List UInt8) (hl : l.length ≤ 1000000) (w : World) (hBX : Bs ∈ X) (hMX : 2 ∈ X) (hXl : ∀ k ∈ X, k < w.heap.size) (hBs : w.cell? ⟨Bs, 0, none⟩ = some (.string (T l))) (hM : MaxL w) :
    SeqStopsK Fence.wide n Tryz.prog 44 #[.pointer (some ⟨Bs, 0, none⟩)] encN (KpP X) (fun ys => ys = partsOf l) (fun pre => pre <+: partsOf l) l.length w := fun y J Jx W hW hJ _ hY h0 =>
  iterN n hn y Bs X l hl hBX hMX J Jx hY W hJ (fun k hk => Nat.lt_of_lt_of_le (hXl k hk) hW.size) ((hW.cell (p := ⟨Bs, 0, none⟩) (hXl Bs hBX)).trans hBs) (hM.below hW (Nat.le_refl _)) h0
theorem namesN_yes (pre : List (Nat × Pt)) (i : Nat) (p : Pt) (h : p.kind = 1) : namesN (pre ++ [(i, p)]) = namesN pre ++ [T p.nm] := by
  unfold namesN
  rw [List.filter_append, List.map_append]
  congr 1
  rw [List.filter_cons, if_pos (by show (p.kind == 1) = true; rw [h]; rfl)]
  rfl
theorem namesN_no (pre : List (Nat × Pt)) (i : Nat) (p : Pt) (h : ¬ p.kind = 1) : namesN (pre ++ [(i, p)]) = namesN pre := by
  unfold namesN
  rw [List.filter_append, List.map_append]
  rw [List.filter_cons, if_neg (by show ¬ (p.kind == 1) = true; simpa using h)]
  simp
theorem Txts.not {w : World} {B : Nat} {v : Value} {l : List ByteArray} (h : Txts w B v l) {k : Nat} {o : Obj} (hk : w.heap[k]? = some o) (ho : ∀ cs, o ≠ .cells cs 9 (0, 0)) : v.ownBlock ≠ some k := fun e => by
  rcases h.2 with ⟨rfl, -⟩ | ⟨g, cap, cur, rfl, -, hg, -⟩
  · cases e
  · have e' : g = k := Option.some.inj e
    subst e'
    rw [hg] at hk
    exact ho cur (Option.some.inj hk).symm
theorem txts_own {B : Nat} {v : Value} {L : List ByteArray} {X Y : World} {row : Option Nat} (hs : Txts X B v L) (hg : X.grownBy Y row) (hr : ∀ r, row = some r → ∃ o : Obj, X.heap[r]? = some o ∧ o.isCells = false) : Txts Y B v L := by
  cases row with
  | none =>
    refine World.ownsRow.kept hs hg ?_
    rcases hs.2 with ⟨rfl, -⟩ | ⟨g, cap, cur, rfl, -⟩
    · exact .inl rfl
    · exact .inr (fun e => by cases e)
  | some r =>
    refine World.ownsRow.kept hs hg (.inr fun e => ?_)
    obtain ⟨o, ho, hc⟩ := hr r rfl
    exact Txts.not hs ho (fun cs e' => by subst e'; cases hc) e
theorem Txts.ge {w : World} {B : Nat} {v : Value} {l : List ByteArray} (h : Txts w B v l) {g : Nat} (hg : v.ownBlock = some g) : B ≤ g := (World.ownsRow.lt h g hg).1
theorem Txts.mono {w : World} {B B' : Nat} {v : Value} {l : List ByteArray} (h : Txts w B v l) (hB : B' ≤ B) : Txts w B' v l := by
  refine ⟨h.1, ?_⟩
  rcases h.2 with q | ⟨g, cap, cur, q0, q1, q2⟩
  · exact .inl q
  · exact .inr ⟨g, cap, cur, q0, by omega, q2⟩
/-- An append as one step of a region that draws its order, within a round. -/
theorem stepIn_append {F : Fence} {n : Nat} {P : Program} {ops : Array Oper} {o : Oper} {a : Act} {w : World} {K : Act → World → Prop} {Q : Exit → Act → World → Prop} {E : Prop}
    (hg : o.guard = none) (s x : Operand) (t : TypeId) (hop : o.op = Op.call { callee := Callee.builtin Builtin.append, args := #[s, x], argTypes := #[t, t] })
    (base : Nat) (e : TypeId) (i : TypeInfo) (z : Value) (size bytes : Nat) (h1 : P.underlying t = some (.slice e)) (h2 : P.info? e = some i) (h3 : i.zero = some z) (h4 : i.size = size) (h5 : i.bytes = bytes) (h6 : z.cells.size = size) (h7 : 0 < size)
    (v : Value) (k : Nat) (xs : List Value) (hs : a.eval s = v) (hown : w.ownsRow base e size v k xs) (ad : Addr) (m c : Nat) (news : List Value) (hx : a.eval x = .slice (some ad) m c) (hn : news.length = m * size)
    (hc : ∀ j u, news[j]? = some u → w.cell? (ad.add j) = some u) (h1c : ∀ u ∈ news, u.oneCell' = true) (b1 : k + m ≤ maxLen) (b2 : (k + m) * bytes ≤ 140737488355328) (b3 : base ≤ w.heap.size)
    (hK : ∀ v' w', w'.ownsRow base e size v' (k + m) (xs ++ news) → w.grownBy w' v.ownBlock → K (a.put o.dst v') w') :
    if Region.wanted o (yielded ops a.tmps) = true then Oper.wpIn F n P o a w K Q else E := by
  have hw : Region.wanted o (yielded ops a.tmps) = true := by simp [Region.wanted, hg]
  rw [if_pos hw]
  obtain ⟨v', w', hrun, r1, r2, r3⟩ := run_append_own (P := P) w base t o.type e i z size bytes h1 h2 h3 h4 h5 h6 h7 v k xs hown ad m c news hn hc h1c b1 b2 b3
  unfold Oper.wpIn
  refine ⟨?_, ?_⟩
  · simp [Oper.about, hop, resolve, Target.leads, Sem.run_pure]
  · rw [Oper.semAt_plain F _ _ (by rw [hop]; intro c hc'; cases hc')]
    simp [execOp, hop, resolve, invoke, builtin, hs, hx, hrun, Result.andThen]
    exact hK v' w' r1 r2
/-- What holds between two parts. -/
def NmI (w : World) (N : Nat) (pre : List (Nat × Pt)) (W : World) : Prop :=
  ∃ v, Boxed W w.heap.size 32 v ∧ Txts W N v (namesN pre) ∧ Below w.heap.size w W ∧ N ≤ W.heap.size
def NmX (c : Code) (pre : List (Nat × Pt)) (W : World) : Prop := False
theorem nmI_own {w : World} {N : Nat} {B : Nat} (hB : w.heap.size ≤ B) : OwnFrom B (NmI w N) := by
  rintro s P Q row ⟨v, h1, h2, h3, h4⟩ hg hr
  exact ⟨v, boxed_own w.heap.size 32 (fun (_ : Unit) => v) () P Q row h1 hg (fun r e => (hr r e).2), txts_own h2 hg (fun r e => (hr r e).2), ownFrom_below (β := Unit) (Nat.le_refl _) hB () P Q row h3 hg hr, Nat.le_trans h4 hg.size⟩
theorem nmX_own {B : Nat} (c : Code) : OwnFrom B (NmX c) := fun s X Y row h _ _ => h
theorem names_len (pre : List (Nat × Pt)) : (namesN pre).length ≤ pre.length := by
  unfold namesN
  rw [List.length_map]
  exact List.length_filter_le _ _
/-- A round that stores what it has appended. -/
theorem nm_step {w W w6 w7 : World} {N Bs : Nat} {v v' : Value} {l l' : List ByteArray} (hBs : Bs < N) (hb : w.heap.size < Bs) (hN : w.heap.size < N) (hM : 2 < w.heap.size) (h1 : Boxed W w.heap.size 32 v) (h2 : Txts W N v l) (h3 : Below w.heap.size w W) (h4 : N ≤ W.heap.size) (k6 : Keeps W w6) (n1 : Txts w7 N v' l') (n2 : w6.grownBy w7 v.ownBlock) :
    Boxed w7 w.heap.size 32 v ∧ KeepsFrom N W (w7.setCell ⟨w.heap.size, 0, none⟩ v') ∧ KpP [Bs, 2] W (w7.setCell ⟨w.heap.size, 0, none⟩ v') ∧
      Boxed (w7.setCell ⟨w.heap.size, 0, none⟩ v') w.heap.size 32 v' ∧ Txts (w7.setCell ⟨w.heap.size, 0, none⟩ v') N v' l' ∧ Below w.heap.size w (w7.setCell ⟨w.heap.size, 0, none⟩ v') ∧ N ≤ (w7.setCell ⟨w.heap.size, 0, none⟩ v').heap.size := by
  have K : ∀ {k : Nat} {o : Obj}, W.heap[k]? = some o → (∀ cs, o ≠ .cells cs 9 (0, 0)) → w7.heap[k]? = some o := fun {k} {o} hk ho => by
    have lt : k < W.heap.size := (Array.getElem?_eq_some_iff.1 hk).1
    exact (n2.block k (Nat.lt_of_lt_of_le lt k6.size) (fun e => Txts.not h2 hk ho e.symm)).trans ((k6.block k lt).trans hk)
  have Kb : ∀ k, k < N → w7.heap[k]? = W.heap[k]? := fun k hk => (n2.block k (by have := k6.size; omega) (fun e => by have := h2.ge e.symm; omega)).trans (k6.block k (by omega))
  have b7 : Boxed w7 w.heap.size 32 v := K h1 (fun cs e => by cases e)
  have far : ∀ k, k ≠ w.heap.size → (w7.setCell ⟨w.heap.size, 0, none⟩ v').heap[k]? = w7.heap[k]? := fun k hk => Below.heap_setCell w7 _ _ k hk
  have ne : ∀ {k : Nat} {o : Obj}, W.heap[k]? = some o → (∀ cs, o ≠ .cells cs 32 (0, 0)) → k ≠ w.heap.size := fun hk ho e => by
    rw [e, show W.heap[w.heap.size]? = _ from h1] at hk
    exact ho _ (Option.some.inj hk).symm
  have sz : (w7.setCell ⟨w.heap.size, 0, none⟩ v').heap.size = w7.heap.size := by simp [World.setCell]
  have s7 : W.heap.size ≤ w7.heap.size := Nat.le_trans k6.size n2.size
  refine ⟨b7, ?_, ?_, b7.set v', World.ownsRow.kept n1 (grownBy_setCell' w7 w.heap.size v') (.inr (Txts.not n1 b7 (fun cs e => by cases e))), ?_, by rw [sz]; exact Nat.le_trans h4 s7⟩
  · exact ⟨by rw [sz]; exact s7, fun k o _ hk ho => by
      rw [far k (ne hk (fun cs e => by subst e; cases ho))]
      exact K hk (fun cs e => by subst e; cases ho)⟩
  · refine ⟨fun k hk => ?_, fun k cs hk => ?_, by rw [sz]; exact s7⟩
    · rcases List.mem_cons.1 hk with rfl | hk
      · rw [far _ (by omega)]; exact Kb _ hBs
      · rw [List.mem_singleton.1 hk, far _ (by omega)]
        exact Kb _ (by omega)
    · rw [far k (ne hk (fun cs e => by cases e))]; exact K hk (fun cs e => by cases e)
  · exact (((h3.trans (Below.mono k6 h3.size)).grown n2 (by have := h3.size; have := k6.size; omega) (fun k hk => by have := h2.ge hk; omega))).setCell (p := ⟨w.heap.size, 0, none⟩) (Nat.le_refl _) _

set_option maxRecDepth 100000 in
set_option maxHeartbeats 4000000 in
theorem snames_any (l : List UInt8) (w : World) (hl : l.length ≤ 1000000) (hM : MaxL w) :
    Calls Tryz.prog 12 #[.string (T l)] w fun e w' => ∃ v, e = .returned v ∧ Hid (Txts w' w.heap.size v (namesOf (partsOf l)) ∧ Below w.heap.size w w') := by
  obtain ⟨W0, hW0⟩ : ∃ W0, w.alloc (.cells #[.slice none 0 0] 32) = W0 := ⟨_, rfl⟩
  have hB : Keeps w W0 := by rw [← hW0]; exact (Below.refl _ _).alloc (Nat.le_refl _) _
  have sz0 : W0.heap.size = w.heap.size + 1 := by rw [← hW0, World.size_alloc]
  have c0 : Boxed W0 w.heap.size 32 (.slice none 0 0) := by rw [← hW0]; exact Boxed.new w _ _
  have HS := Lib.hid (⟨hM, hl⟩ : _ ∧ _)
  have HW0 := Lib.hid hW0
  have HB := Lib.hid hB
  clear hW0 hB hM hl
  refine (callsIn_wide (n := 4)).1 ?_
  refine callsIn_of_wp_marks Tryz.func12 rfl trivial ?_ rfl
  simp only [Tryz.ntmps12, List.size_toArray, List.length_cons, List.length_nil, Nat.reduceAdd, Nat.reduceSub, Array.replicate_succ, Array.replicate_zero, List.push_toArray, List.append_toArray, List.nil_append, List.cons_append]
  gi_wp2_with fail
  rw [HW0.out]
  refine ⟨trivial, CallsIn.mono (callsIn_wide.2 (parts_any (T l) W0)) ?_⟩; rintro e w2 ⟨rfl, rfl⟩
  gi_wp2_with fail
  obtain ⟨Bs, hBs⟩ : ∃ Bs, w.heap.size + 1 = Bs := ⟨_, rfl⟩
  have h0s : W0.heap.size = Bs := sz0.trans hBs
  obtain ⟨W1, hW1⟩ : ∃ W1, W0.alloc (.cells #[.string (T l)] 9) = W1 := ⟨_, rfl⟩
  have k1 : Keeps W0 W1 := by rw [← hW1]; exact (Below.refl _ _).alloc (Nat.le_refl _) _
  have bs : W1.cell? ⟨Bs, 0, none⟩ = some (.string (T l)) := by rw [← hW1, ← h0s]; exact (Boxed.new W0 _ _).cell
  have sz : W1.heap.size = Bs + 1 := by rw [← hW1, World.size_alloc, h0s]
  have B2 : Below w.heap.size w W1 := HB.out.trans (Below.mono k1 HB.out.size)
  obtain ⟨m, hm⟩ := HS.out.1
  have hgl : 2 < w.heap.size := lt_of_cell hm
  have hX : ∀ k ∈ [Bs, 2], k < W1.heap.size := fun k hk => by
    rcases List.mem_cons.1 hk with rfl | hk
    · omega
    · rw [List.mem_singleton.1 hk]; omega
  rw [hBs, hW1]
  have I0 : NmI w W1.heap.size [] W1 := ⟨_, (k1.block _ c0.lt).trans c0, World.ownsRow_nil W1 _ 9 1, B2, Nat.le_refl _⟩
  refine wpIn_rangeFunc_ownH rfl (by decide) (gf := 44) (lb := #[.pointer (some ⟨Bs, 0, none⟩)]) rfl trivial (enters_of Tryz.func44 (by kernel_rfl) rfl)
    (parts_stopsN (4 - 1) (by decide) Bs [Bs, 2] l HS.out.2 W1 (List.mem_cons_self ..) (List.mem_cons_of_mem _ (List.mem_cons_self ..)) hX bs (HS.out.1.below B2 (Nat.le_refl _)))
    (fun h k => h.trans k) (kp_put hX) (Below.refl _ _) (fun _ => rfl)
    (NmI w W1.heap.size) NmX (nmI_own (by omega)) (fun c => nmX_own c) I0
    (fun x a' W => ∃ Bx, w.heap.size < Bx ∧ W.heap[Bx]? = some (Obj.cells #[.int .i64 (x.2.kind : Int), .string (T x.2.tx), .string (T x.2.nm)] 55 (0, 0)) ∧ a' = { tmps := #[.string (T l), undef, .slice none 0 0, .pointer (some ⟨w.heap.size, 0, none⟩), undef, .pointer (some ⟨Bx, 0, none⟩), .string (T l), .func (.func 44) #[] #[.pointer (some ⟨Bs, 0, none⟩)], .int .i64 (x.1 : Int), .agg #[.int .i64 (x.2.kind : Int), .string (T x.2.tx), .string (T x.2.nm)], undef, undef, undef, undef, undef, undef, undef, undef, undef, undef], defers := [] })
    (fun x a' s X Y row hs hg hr => by obtain ⟨Bx, e1, e2, e3⟩ := hs; exact ⟨Bx, e1, heap_own Bx (fun (_ : Unit) => #[.int .i64 (x.2.kind : Int), .string (T x.2.tx), .string (T x.2.nm)]) 55 W1.heap.size () X Y row e2 hg hr, e3⟩)
    ?assign ?body ?done ?stop
  case assign =>
    rintro y pre ⟨i, p⟩ W K ⟨v, h1, h2, h3, h4⟩ hK
    have l0 := h1.lt
    have hk : Keeps W (W.alloc (.cells #[.int .i64 (p.kind : Int), .string (T p.tx), .string (T p.nm)] 55)) := (Below.refl _ _).alloc (Nat.le_refl _) _
    unfold encN
    gi_wp2
    exact hK _ _ (keepsFrom_of hk _) (KpP.of_below hk fun k hkk => Nat.lt_of_lt_of_le (hX k hkk) h4) ⟨v, h1.alloc _, World.ownsRow.alloc h2 _, h3.alloc h3.size _, by simp; omega⟩ ⟨W.heap.size, l0, heap_alloc_new W _, rfl⟩
  case body =>
    rintro y pre ⟨i, p⟩ a' W hl' ⟨r, hr⟩ ⟨v, h1, h2, h3, h4⟩ ⟨Bx, hBx, hX2, rfl⟩ hlt
    have hz : (T p.nm).size ≤ 1000000 := by show (p.name.take 1000000).length ≤ _; rw [List.length_take]; omega
    have c0 : W.cell? ⟨Bx, 0, none⟩ = some (.int .i64 (p.kind : Int)) := cell_of_heap hX2 rfl
    have c2 : W.cell? ⟨Bx, 2, none⟩ = some (.string (T p.nm)) := cell_of_heap hX2 rfl
    have d0 := h1.cell
    have f0 := h1.frozen
    have l0 := h1.lt
    have HH := Lib.hid (⟨h1, h2, h3, h4⟩ : _ ∧ _ ∧ _ ∧ _)
    have CL : ∀ V, Calls Tryz.prog 29 #[.string (T p.nm)] V fun e w' => e = .returned (.string (T p.nm)) ∧ Below V.heap.size V w' := fun V => clone_str _ hz V
    clear h1 h2 h3 h4 hX2
    by_cases k1 : p.kind = 1
    · have e1 : ((p.kind : Int) == 1) = true := by rw [beq_iff_eq]; omega
      have NY := Lib.hid (namesN_yes pre i p k1)
      have nl := names_len pre
      have OW : Hid (∀ V, Keeps W V → (V.alloc (.cells #[.string (T p.nm)] 9)).ownsRow W1.heap.size 9 1 v (namesN pre).length ((namesN pre).map Value.string)) := fun V hV => World.ownsRow.alloc (own_below HH.out.2.1 hV) _
      have ND : Hid (∀ (V w7 : World) (v' : Value), Keeps W V → w7.ownsRow W1.heap.size 9 1 v' ((namesN pre).length + 1) ((namesN pre).map Value.string ++ [.string (T p.nm)]) → (V.alloc (.cells #[.string (T p.nm)] 9)).grownBy w7 v.ownBlock →
          Boxed w7 w.heap.size 32 v ∧ (KeepsFrom W1.heap.size W (w7.setCell ⟨w.heap.size, 0, none⟩ v') ∧ KpP [Bs, 2] W (w7.setCell ⟨w.heap.size, 0, none⟩ v') ∧ NmI w W1.heap.size (pre ++ [(i, p)]) (w7.setCell ⟨w.heap.size, 0, none⟩ v'))) := fun V w7 v' hV n1 n2 => by
        have n1' : Txts w7 W1.heap.size v' (namesN pre ++ [T p.nm]) := by
          unfold Txts
          rw [List.length_append, List.length_singleton, List.map_append]
          exact n1
        obtain ⟨q1, q2, q3, q4, q5, q6, q7⟩ := nm_step (w := w) (Bs := Bs) (by omega) (by omega) (by omega) hgl HH.out.1 HH.out.2.1 HH.out.2.2.1 HH.out.2.2.2 (hV.trans ((Below.refl _ _).alloc hV.size _)) n1' n2
        exact ⟨q1, q2, q3, v', q4, by rw [NY.out]; exact q5, q6, q7⟩
      have SZ : Hid (∀ V, Keeps W V → W1.heap.size ≤ (V.alloc (.cells #[.string (T p.nm)] 9)).heap.size) := fun V hV => by
        have := HH.out.2.2.2
        have := hV.size
        simp
        omega
      have CE : Hid (∀ (V : World) (j : Nat) (u : Value), ([.string (T p.nm)] : List Value)[j]? = some u → (V.alloc (.cells #[.string (T p.nm)] 9)).cell? (Addr.add ⟨V.heap.size, 0, none⟩ j) = some u) := fun V j u hj => by
        obtain rfl : j = 0 := by
          have := (List.getElem?_eq_some_iff.1 hj).1
          simpa using this
        rw [show (Addr.add ⟨V.heap.size, 0, none⟩ 0 : Addr) = ⟨V.heap.size, 0, none⟩ by simp [Addr.add], World.cell?_alloc_at _ _ _ _ rfl]
        simpa using hj
      have OC : ∀ u ∈ ([.string (T p.nm)] : List Value), u.oneCell' = true := fun u hu => by simp at hu; subst hu; rfl
      have hlb := HS.out.2
      obtain ⟨i0, hi, hz0, hz1, hz2⟩ := info_parts infoStr
      generalize (namesN pre).length = ln at *
      generalize (namesN pre).map Value.string = ls at *
      clear k1
      gi_wp2_with fail
      refine wpIn_region_any (by kernel_rfl) ?_
      refine wpAnyIn_ready (rs := [0, 1]) (by kernel_rfl) (by simp) ?_
      refine AllReadyIn.cons rfl (fun K hK => ?_) (AllReadyIn.cons rfl (fun K hK => ?_) AllReadyIn.nil)
      · go_simp
        refine hK _ _ ?_
        clear hK K
        refine wpAnyIn_ready (rs := [1]) (by kernel_rfl) (by simp) ?_
        refine AllReadyIn.cons rfl (fun K hK => ?_) AllReadyIn.nil
        go_simp
        refine hK _ _ ?_
        clear hK K
        refine wpAnyIn_ready (rs := [2]) (by kernel_rfl) (by simp) ?_
        refine AllReadyIn.cons rfl (fun K hK => ?_) AllReadyIn.nil
        go_simp
        refine hK _ _ ?_
        clear hK K
        refine wpAnyIn_ready (rs := [3]) (by kernel_rfl) (by simp) ?_
        refine AllReadyIn.cons rfl (fun K hK => ?_) AllReadyIn.nil
        go_simp
        refine ⟨trivial, CallsIn.mono (CallsIn.inRound y (callsIn_wide.2 (CL _))) ?_⟩; rintro e w5 ⟨rfl, hb⟩
        have k5 : Keeps W w5 := ((Below.refl _ W).drew).trans hb
        have d5 : w5.cell? ⟨w.heap.size, 0, none⟩ = some v := (k5.cell (p := ⟨w.heap.size, 0, none⟩) l0).trans d0
        have d6 : ∀ o, (w5.alloc o).cell? ⟨w.heap.size, 0, none⟩ = some v := fun o => (Below.cell ((Below.refl w5.heap.size w5).alloc (Nat.le_refl _) o) (p := ⟨w.heap.size, 0, none⟩) (lt_of_cell d5)).trans d5
        have K5 := Lib.hid k5
        clear hb k5
        refine hK _ _ ?_
        clear hK K
        refine wpAnyIn_ready (rs := [4]) (by kernel_rfl) (by simp) ?_
        refine AllReadyIn.cons rfl (fun K hK => ?_) AllReadyIn.nil
        go_simp
        refine hK _ _ ?_
        clear hK K
        refine wpAnyIn_ready (rs := [5]) (by kernel_rfl) (by simp) ?_
        refine AllReadyIn.cons rfl (fun K hK => ?_) AllReadyIn.nil
        refine stepIn_append rfl (.tmp 13) (.tmp 17) 32 rfl W1.heap.size 9 i0 (.string ⟨#[]⟩) 1 16 Tryz.underlying32 hi hz0 hz1 hz2 rfl (by decide) v ln ls rfl (OW.out w5 K5.out) ⟨w5.heap.size, 0, none⟩ 1 1 [.string (T p.nm)] rfl rfl (CE.out w5) OC (by unfold maxLen; omega) (by omega) (SZ.out w5 K5.out) ?_
        intro v' w7 n1 n2
        obtain ⟨va, vcap, rfl, -, -, -⟩ := own_open n1
        obtain ⟨b7, END⟩ := ND.out w5 w7 _ K5.out n1 n2
        have END := Lib.hid END
        have x0 := b7.cell
        have x1 := b7.frozen
        clear n1 n2 b7 d5 d6
        refine hK _ _ ?_
        clear hK K
        refine wpAnyIn_ready (rs := [6]) (by kernel_rfl) (by simp) ?_
        refine AllReadyIn.cons rfl (fun K hK => ?_) AllReadyIn.nil
        go_simp
        refine hK _ _ ?_
        clear hK K
        refine wpAnyIn_done (by kernel_rfl) ?_ _
        exact END.out
      · go_simp
        refine hK _ _ ?_
        clear hK K
        refine wpAnyIn_ready (rs := [0, 2]) (by kernel_rfl) (by simp) ?_
        refine AllReadyIn.cons rfl (fun K hK => ?_) (AllReadyIn.cons rfl (fun K hK => ?_) AllReadyIn.nil)
        · go_simp
          refine hK _ _ ?_
          clear hK K
          refine wpAnyIn_ready (rs := [2]) (by kernel_rfl) (by simp) ?_
          refine AllReadyIn.cons rfl (fun K hK => ?_) AllReadyIn.nil
          go_simp
          refine hK _ _ ?_
          clear hK K
          refine wpAnyIn_ready (rs := [3]) (by kernel_rfl) (by simp) ?_
          refine AllReadyIn.cons rfl (fun K hK => ?_) AllReadyIn.nil
          go_simp
          refine ⟨trivial, CallsIn.mono (CallsIn.inRound y (callsIn_wide.2 (CL _))) ?_⟩; rintro e w5 ⟨rfl, hb⟩
          have k5 : Keeps W w5 := ((Below.refl _ W).drew).trans hb
          have d5 : w5.cell? ⟨w.heap.size, 0, none⟩ = some v := (k5.cell (p := ⟨w.heap.size, 0, none⟩) l0).trans d0
          have d6 : ∀ o, (w5.alloc o).cell? ⟨w.heap.size, 0, none⟩ = some v := fun o => (Below.cell ((Below.refl w5.heap.size w5).alloc (Nat.le_refl _) o) (p := ⟨w.heap.size, 0, none⟩) (lt_of_cell d5)).trans d5
          have K5 := Lib.hid k5
          clear hb k5
          refine hK _ _ ?_
          clear hK K
          refine wpAnyIn_ready (rs := [4]) (by kernel_rfl) (by simp) ?_
          refine AllReadyIn.cons rfl (fun K hK => ?_) AllReadyIn.nil
          go_simp
          refine hK _ _ ?_
          clear hK K
          refine wpAnyIn_ready (rs := [5]) (by kernel_rfl) (by simp) ?_
          refine AllReadyIn.cons rfl (fun K hK => ?_) AllReadyIn.nil
          refine stepIn_append rfl (.tmp 13) (.tmp 17) 32 rfl W1.heap.size 9 i0 (.string ⟨#[]⟩) 1 16 Tryz.underlying32 hi hz0 hz1 hz2 rfl (by decide) v ln ls rfl (OW.out w5 K5.out) ⟨w5.heap.size, 0, none⟩ 1 1 [.string (T p.nm)] rfl rfl (CE.out w5) OC (by unfold maxLen; omega) (by omega) (SZ.out w5 K5.out) ?_
          intro v' w7 n1 n2
          obtain ⟨va, vcap, rfl, -, -, -⟩ := own_open n1
          obtain ⟨b7, END⟩ := ND.out w5 w7 _ K5.out n1 n2
          have END := Lib.hid END
          have x0 := b7.cell
          have x1 := b7.frozen
          clear n1 n2 b7 d5 d6
          refine hK _ _ ?_
          clear hK K
          refine wpAnyIn_ready (rs := [6]) (by kernel_rfl) (by simp) ?_
          refine AllReadyIn.cons rfl (fun K hK => ?_) AllReadyIn.nil
          go_simp
          refine hK _ _ ?_
          clear hK K
          refine wpAnyIn_done (by kernel_rfl) ?_ _
          exact END.out
        · go_simp
          refine hK _ _ ?_
          clear hK K
          refine wpAnyIn_ready (rs := [0, 3]) (by kernel_rfl) (by simp) ?_
          refine AllReadyIn.cons rfl (fun K hK => ?_) (AllReadyIn.cons rfl (fun K hK => ?_) AllReadyIn.nil)
          · go_simp
            refine hK _ _ ?_
            clear hK K
            refine wpAnyIn_ready (rs := [3]) (by kernel_rfl) (by simp) ?_
            refine AllReadyIn.cons rfl (fun K hK => ?_) AllReadyIn.nil
            go_simp
            refine ⟨trivial, CallsIn.mono (CallsIn.inRound y (callsIn_wide.2 (CL _))) ?_⟩; rintro e w5 ⟨rfl, hb⟩
            have k5 : Keeps W w5 := ((Below.refl _ W).drew).trans hb
            have d5 : w5.cell? ⟨w.heap.size, 0, none⟩ = some v := (k5.cell (p := ⟨w.heap.size, 0, none⟩) l0).trans d0
            have d6 : ∀ o, (w5.alloc o).cell? ⟨w.heap.size, 0, none⟩ = some v := fun o => (Below.cell ((Below.refl w5.heap.size w5).alloc (Nat.le_refl _) o) (p := ⟨w.heap.size, 0, none⟩) (lt_of_cell d5)).trans d5
            have K5 := Lib.hid k5
            clear hb k5
            refine hK _ _ ?_
            clear hK K
            refine wpAnyIn_ready (rs := [4]) (by kernel_rfl) (by simp) ?_
            refine AllReadyIn.cons rfl (fun K hK => ?_) AllReadyIn.nil
            go_simp
            refine hK _ _ ?_
            clear hK K
            refine wpAnyIn_ready (rs := [5]) (by kernel_rfl) (by simp) ?_
            refine AllReadyIn.cons rfl (fun K hK => ?_) AllReadyIn.nil
            refine stepIn_append rfl (.tmp 13) (.tmp 17) 32 rfl W1.heap.size 9 i0 (.string ⟨#[]⟩) 1 16 Tryz.underlying32 hi hz0 hz1 hz2 rfl (by decide) v ln ls rfl (OW.out w5 K5.out) ⟨w5.heap.size, 0, none⟩ 1 1 [.string (T p.nm)] rfl rfl (CE.out w5) OC (by unfold maxLen; omega) (by omega) (SZ.out w5 K5.out) ?_
            intro v' w7 n1 n2
            obtain ⟨va, vcap, rfl, -, -, -⟩ := own_open n1
            obtain ⟨b7, END⟩ := ND.out w5 w7 _ K5.out n1 n2
            have END := Lib.hid END
            have x0 := b7.cell
            have x1 := b7.frozen
            clear n1 n2 b7 d5 d6
            refine hK _ _ ?_
            clear hK K
            refine wpAnyIn_ready (rs := [6]) (by kernel_rfl) (by simp) ?_
            refine AllReadyIn.cons rfl (fun K hK => ?_) AllReadyIn.nil
            go_simp
            refine hK _ _ ?_
            clear hK K
            refine wpAnyIn_done (by kernel_rfl) ?_ _
            exact END.out
          · go_simp
            refine ⟨trivial, CallsIn.mono (CallsIn.inRound y (callsIn_wide.2 (CL _))) ?_⟩; rintro e w5 ⟨rfl, hb⟩
            have k5 : Keeps W w5 := ((Below.refl _ W).drew).trans hb
            have d5 : w5.cell? ⟨w.heap.size, 0, none⟩ = some v := (k5.cell (p := ⟨w.heap.size, 0, none⟩) l0).trans d0
            have d6 : ∀ o, (w5.alloc o).cell? ⟨w.heap.size, 0, none⟩ = some v := fun o => (Below.cell ((Below.refl w5.heap.size w5).alloc (Nat.le_refl _) o) (p := ⟨w.heap.size, 0, none⟩) (lt_of_cell d5)).trans d5
            have K5 := Lib.hid k5
            clear hb k5
            refine hK _ _ ?_
            clear hK K
            refine wpAnyIn_ready (rs := [0, 4]) (by kernel_rfl) (by simp) ?_
            refine AllReadyIn.cons rfl (fun K hK => ?_) (AllReadyIn.cons rfl (fun K hK => ?_) AllReadyIn.nil)
            · go_simp
              refine hK _ _ ?_
              clear hK K
              refine wpAnyIn_ready (rs := [4]) (by kernel_rfl) (by simp) ?_
              refine AllReadyIn.cons rfl (fun K hK => ?_) AllReadyIn.nil
              go_simp
              refine hK _ _ ?_
              clear hK K
              refine wpAnyIn_ready (rs := [5]) (by kernel_rfl) (by simp) ?_
              refine AllReadyIn.cons rfl (fun K hK => ?_) AllReadyIn.nil
              refine stepIn_append rfl (.tmp 13) (.tmp 17) 32 rfl W1.heap.size 9 i0 (.string ⟨#[]⟩) 1 16 Tryz.underlying32 hi hz0 hz1 hz2 rfl (by decide) v ln ls rfl (OW.out w5 K5.out) ⟨w5.heap.size, 0, none⟩ 1 1 [.string (T p.nm)] rfl rfl (CE.out w5) OC (by unfold maxLen; omega) (by omega) (SZ.out w5 K5.out) ?_
              intro v' w7 n1 n2
              obtain ⟨va, vcap, rfl, -, -, -⟩ := own_open n1
              obtain ⟨b7, END⟩ := ND.out w5 w7 _ K5.out n1 n2
              have END := Lib.hid END
              have x0 := b7.cell
              have x1 := b7.frozen
              clear n1 n2 b7 d5 d6
              refine hK _ _ ?_
              clear hK K
              refine wpAnyIn_ready (rs := [6]) (by kernel_rfl) (by simp) ?_
              refine AllReadyIn.cons rfl (fun K hK => ?_) AllReadyIn.nil
              go_simp
              refine hK _ _ ?_
              clear hK K
              refine wpAnyIn_done (by kernel_rfl) ?_ _
              exact END.out
            · go_simp
              refine hK _ _ ?_
              clear hK K
              refine wpAnyIn_ready (rs := [0]) (by kernel_rfl) (by simp) ?_
              refine AllReadyIn.cons rfl (fun K hK => ?_) AllReadyIn.nil
              go_simp
              refine hK _ _ ?_
              clear hK K
              refine wpAnyIn_ready (rs := [5]) (by kernel_rfl) (by simp) ?_
              refine AllReadyIn.cons rfl (fun K hK => ?_) AllReadyIn.nil
              refine stepIn_append rfl (.tmp 13) (.tmp 17) 32 rfl W1.heap.size 9 i0 (.string ⟨#[]⟩) 1 16 Tryz.underlying32 hi hz0 hz1 hz2 rfl (by decide) v ln ls rfl (OW.out w5 K5.out) ⟨w5.heap.size, 0, none⟩ 1 1 [.string (T p.nm)] rfl rfl (CE.out w5) OC (by unfold maxLen; omega) (by omega) (SZ.out w5 K5.out) ?_
              intro v' w7 n1 n2
              obtain ⟨va, vcap, rfl, -, -, -⟩ := own_open n1
              obtain ⟨b7, END⟩ := ND.out w5 w7 _ K5.out n1 n2
              have END := Lib.hid END
              have x0 := b7.cell
              have x1 := b7.frozen
              clear n1 n2 b7 d5 d6
              refine hK _ _ ?_
              clear hK K
              refine wpAnyIn_ready (rs := [6]) (by kernel_rfl) (by simp) ?_
              refine AllReadyIn.cons rfl (fun K hK => ?_) AllReadyIn.nil
              go_simp
              refine hK _ _ ?_
              clear hK K
              refine wpAnyIn_done (by kernel_rfl) ?_ _
              exact END.out
    · have e1 : ((p.kind : Int) == 1) = false := by rw [beq_eq_false_iff_ne]; omega
      have NX : Hid (KeepsFrom W1.heap.size W W ∧ KpP [Bs, 2] W W ∧ NmI w W1.heap.size (pre ++ [(i, p)]) W) := ⟨keepsFrom_of (Below.refl _ _) _, KpP.refl _ _, v, HH.out.1, by rw [namesN_no pre i p k1]; exact HH.out.2.1, HH.out.2.2.1, HH.out.2.2.2⟩
      clear k1
      gi_wp2_with fail
      exact NX.out
  case done =>
    rintro D zs W hD rfl ⟨v, h1, h2, h3, h4⟩ hK
    have d0 := h1.cell
    obtain ⟨va, vcap, rfl, -, -, -⟩ := own_open h2
    rw [namesN_all l HS.out.2] at h2 d0
    have HH := Lib.hid (⟨h1, h2, h3, h4, hK⟩ : _ ∧ _ ∧ _ ∧ _ ∧ _)
    clear h1 h2 h3 h4
    gi_wp2_with fail
    refine ⟨by simp, .inl ⟨_, _, rfl, run_takeDeferred HH.out.2.2.2.2, ?_⟩⟩
    refine ⟨.slice va (namesOf (partsOf l)).length vcap, by simp [results, Tryz.f12, go_sem], _, rfl, ?_⟩
    exact ⟨(txts_own HH.out.2.1 (grownBy_putObj' _ D (.deferred none)) (fun r e => by cases e; exact ⟨_, HH.out.2.2.2.2, rfl⟩)).mono (by omega), HH.out.2.2.1.trans (belowK_b (w := w) (Nat.le_refl _) W D _ _ (by omega) HH.out.2.2.2.2 rfl rfl)⟩
  case stop =>
    rintro D c pre W hD hpre h hK
    exact absurd h (fun q => q)
end Go.Proofs.YtoilalffhmjhdaaGreatDoor.subst
