/- pick.opened: the answer of apps that open a URL; strings.Clone. -/
import Derived.Test.YtmgdkdohadaknaaDoorPkRow
import Derived.Test.YtmgdkdohadaknaaDoorShelf
import Derived.Deep.LoopGhost
import Derived.Deep.AppendLies
import Derived.Deep.RegionLaw
import Derived.Deep.DeepCutAuto
import Derived.Deep.CutBlock
import Derived.IntWalk
set_option linter.unusedSimpArgs false
set_option linter.unusedVariables false
namespace Go.Proofs.YtmgdkdohadaknaaDoor.pick
open Go.RowKit Go.Proofs.YtmgdkdohadaknaaDoor.errs Go.Proofs.YtmgdkdohadaknaaDoor.wire

theorem clone_str (s : ByteArray) (hs : s.size ≤ 281474976710656) (w : World) : Calls Tryd.prog 35 #[.string s] w fun e w' => e = .returned (.string s) ∧ Below w.heap.size w w' := by
  have C := Tryd.stringslite_Clone s w hs
  go_enter Tryd.func35, Tryd.ntmps35
  go_wp2_with fail
  refine C.mono ?_; rintro e w1 ⟨rfl, hb⟩
  have K := Lib.hid hb
  clear hb C
  go_wp2_with fail
  go_ret
  exact ⟨rfl, K.out⟩

theorem grown_set (w : World) (b i : Nat) (u : Value) : w.grownBy (w.setCell ⟨b, i, none⟩ u) (some b) :=
  ⟨rfl, rfl, rfl, by simp, fun k _ hk => heap_setCell_other w ⟨b, i, none⟩ k u (fun e => hk (by rw [e]))⟩
theorem info_of {t : TypeId} {z : Option Value} {s b : Nat} (h : (Tryd.prog.info? t).map (fun i => (i.zero, i.size, i.bytes)) = some (z, s, b)) : ∃ i, Tryd.prog.info? t = some i ∧ i.zero = z ∧ i.size = s ∧ i.bytes = b := by
  cases hi : Tryd.prog.info? t with
  | none => rw [hi] at h; cases h
  | some i =>
    rw [hi] at h
    simp at h
    exact ⟨i, rfl, h.1, h.2.1, h.2.2⟩
theorem keeps_alloc {w0 w : World} (h : Below w0.heap.size w0 w) (o : Obj) : Below w0.heap.size w0 (w.alloc o) := h.alloc h.size o
/-- What stands within a call of opened: the answer's cells, the result's cells, the row of its apps. -/
structure OpAt (w wx : World) (b : Nat) (k r : Int) (v : Value) (n : Nat) (xs : List Value) : Prop where
  res : Blk wx b #[.int .i64 0, .slice none 0 0, .int .i64 0] 29
  blk : Blk wx (b + 1) #[.int .i64 k, v, .int .i64 r] 29
  row : wx.ownsRow b 9 1 v n xs
  apart : ∀ q, v.ownBlock = some q → q ≠ b ∧ q ≠ b + 1
  below : Below w.heap.size w wx
  size : w.heap.size = b
theorem OpAt.on {w wx w2 : World} {b : Nat} {k r : Int} {v : Value} {n : Nat} {xs : List Value} (h : OpAt w wx b k r v n xs) (hb : Below wx.heap.size wx w2) : OpAt w w2 b k r v n xs :=
  ⟨h.res.below hb h.res.lt, h.blk.below hb h.blk.lt, h.row.kept (row := none) ⟨hb.os, hb.tape, hb.output, hb.size, fun k hk _ => hb.block k hk⟩ (by cases v.ownBlock <;> simp), h.apart, h.below.trans (hb.mono h.below.size), h.size⟩
theorem opAt_new (w : World) (k r : Int) : OpAt w ((w.alloc (.cells #[.int .i64 0, .slice none 0 0, .int .i64 0] 29)).alloc (.cells #[.int .i64 k, .slice none 0 0, .int .i64 r] 29)) w.heap.size k r (.slice none 0 0) 0 [] := by
  have b2 := blk_new (w.alloc (.cells #[.int .i64 0, .slice none 0 0, .int .i64 0] 29)) #[.int .i64 k, .slice none 0 0, .int .i64 r] 29
  rw [show (w.alloc (.cells #[.int .i64 0, .slice none 0 0, .int .i64 0] 29)).heap.size = w.heap.size + 1 by simp] at b2
  exact ⟨(blk_new w _ _).alloc _, b2, World.ownsRow_nil _ _ _ _, (fun q hq => by cases hq), ((Below.refl _ w).alloc (Nat.le_refl _) _).alloc (by simp) _, rfl⟩
theorem OpAt.kind {w wx : World} {b : Nat} {k r : Int} {v : Value} {n : Nat} {xs : List Value} (h : OpAt w wx b k r v n xs) (k' r' : Int) : OpAt w (((wx.setCell ⟨b + 1, 0, none⟩ (.int .i64 k')).setCell ⟨b + 1, 1, none⟩ v).setCell ⟨b + 1, 2, none⟩ (.int .i64 r')) b k' r' v n xs := by
  have ne : ∀ i, b ≠ (⟨b + 1, i, none⟩ : Addr).block := fun i => by show b ≠ b + 1; omega
  have le : ∀ i, w.heap.size ≤ (⟨b + 1, i, none⟩ : Addr).block := fun i => by have := h.size; show w.heap.size ≤ b + 1; omega
  have nn : v.ownBlock ≠ some (b + 1) := fun e => (h.apart _ e).2 rfl
  have gr : ∀ (W : World) (i : Nat) (u : Value), W.ownsRow b 9 1 v n xs → (W.setCell ⟨b + 1, i, none⟩ u).ownsRow b 9 1 v n xs := fun W i u hw => hw.kept (grown_set W (b + 1) i u) (by cases hv : v.ownBlock with | none => exact .inl rfl | some q => exact .inr (fun e => nn (hv.trans e)))
  exact ⟨((h.res.other _ (ne 0) _).other _ (ne 1) _).other _ (ne 2) _, ((h.blk.set 0 _).set 1 _).set 2 _, gr _ _ _ (gr _ _ _ (gr _ _ _ h.row)), h.apart, ((h.below.setCell (le 0) _).setCell (le 1) _).setCell (le 2) _, h.size⟩
theorem OpAt.put {w wx w2 : World} {b : Nat} {k r : Int} {v : Value} {l : List ByteArray} {n : Nat} (h : OpAt w wx b k r v n (strs l)) (hn : l.length = n) {o : Obj} {g cap : Nat} {s : ByteArray}
    (hown : w2.ownsRow b 9 1 (.slice (some ⟨g, 0, none⟩) (n + 1) cap) (n + 1) (strs l ++ [.string s])) (hgrow : (wx.alloc o).grownBy w2 v.ownBlock) (hat : v.ownBlock = some g ∨ g = wx.heap.size + 1) :
    Blk w2 (b + 1) #[.int .i64 k, v, .int .i64 r] 29 ∧ OpAt w (w2.setCell ⟨b + 1, 1, none⟩ (.slice (some ⟨g, 0, none⟩) (n + 1) cap)) b k r (.slice (some ⟨g, 0, none⟩) (n + 1) cap) (n + 1) (strs (l ++ [s])) := by
  have s1 := h.size
  have s3 := h.below.size
  have hb : ∀ k, k < wx.heap.size → v.ownBlock ≠ some k → w2.heap[k]? = wx.heap[k]? := fun k hk hn => by
    rw [hgrow.block k (by simp; omega) (fun e => hn e.symm)]
    exact heap_alloc_old wx o hk
  have l1 := h.res.lt
  have l2 := h.blk.lt
  have k1 : Blk w2 b #[.int .i64 0, .slice none 0 0, .int .i64 0] 29 := (hb b l1 (fun e => (h.apart b e).1 rfl)).trans h.res
  have k2 : Blk w2 (b + 1) #[.int .i64 k, v, .int .i64 r] 29 := (hb (b + 1) l2 (fun e => (h.apart (b + 1) e).2 rfl)).trans h.blk
  have hg : g ≠ b ∧ g ≠ b + 1 := by
    rcases hat with e | e
    · exact h.apart g e
    · omega
  have hr : w2.grownBy (w2.setCell ⟨b + 1, 1, none⟩ (.slice (some ⟨g, 0, none⟩) (n + 1) cap)) (some (b + 1)) := grown_set _ _ _ _
  have e2 : strs (l ++ [s]) = strs l ++ [.string s] := strs_append _ _
  refine ⟨k2, k1.other _ (by show b ≠ b + 1; omega) _, k2.set 1 _, ?_, fun q hq => by have hq : g = q := Option.some.inj hq; subst hq; exact hg, ?_, s1⟩
  · rw [e2]
    exact hown.kept hr (.inr (by show some g ≠ some (b + 1); exact fun e => hg.2 (Option.some.inj e)))
  · refine Below.setCell ((h.below.alloc s3 o).grown hgrow (by simp; omega) (fun q hq => ?_)) (by show w.heap.size ≤ b + 1; omega) _
    rw [s1]
    exact (h.row.lt q hq).1

/-- Behind the last store: what is handed back. -/
theorem OpAt.ends {w wx : World} {b : Nat} {k r : Int} {v : Value} {n : Nat} {l : List ByteArray} (h : OpAt w wx b k r v n (strs l)) (hn : l.length = n) (u0 u1 u2 : Value) :
    OwnS (((wx.setCell ⟨b, 0, none⟩ u0).setCell ⟨b, 1, none⟩ u1).setCell ⟨b, 2, none⟩ u2) w.heap.size v l ∧ Below w.heap.size w (((wx.setCell ⟨b, 0, none⟩ u0).setCell ⟨b, 1, none⟩ u1).setCell ⟨b, 2, none⟩ u2) := by
  have nn : v.ownBlock ≠ some b := fun e => (h.apart _ e).1 rfl
  have le : ∀ i, w.heap.size ≤ (⟨b, i, none⟩ : Addr).block := fun i => by have := h.size; show w.heap.size ≤ b; omega
  have gr : ∀ (W : World) (i : Nat) (u : Value), W.ownsRow b 9 1 v n (strs l) → (W.setCell ⟨b, i, none⟩ u).ownsRow b 9 1 v n (strs l) := fun W i u hw => hw.kept (grown_set W b i u) (by cases hv : v.ownBlock with | none => exact .inl rfl | some q => exact .inr (fun e => nn (hv.trans e)))
  have key := gr _ 2 u2 (gr _ 1 u1 (gr _ 0 u0 h.row))
  rw [← hn] at key
  have hs := h.size
  exact ⟨by rw [hs]; exact key, ((h.below.setCell (le 0) _).setCell (le 1) _).setCell (le 2) _⟩

set_option maxRecDepth 100000 in
set_option maxHeartbeats 2000000 in
theorem opened_any (l : List ByteArray) (hl : ∀ s ∈ l, s.size ≤ 281474976710656) (hn : l.length ≤ 1000) (v : Value) (w : World) (h : StrsIn w v l) :
    Calls Tryd.prog 23 #[v] w fun e w' => ∃ x, e = .returned x ∧ AnsO w' w.heap.size x (opened l) ∧ Below w.heap.size w w' := by
  obtain ⟨a, cap, rfl⟩ := h.form
  obtain ⟨i1, hi1, hz1, hs1, hy1⟩ := info_of infoText
  have hz : ∀ i, i < l.length → (l.getD i ⟨#[]⟩).size ≤ 281474976710656 := fun i hi => by
    rw [List.getD_eq_getElem?_getD, List.getElem?_eq_getElem hi]
    exact hl _ (List.getElem_mem hi)
  have HZ := Lib.hid hz
  have HI := Lib.hid h
  obtain ⟨b, hb⟩ : ∃ b, w.heap.size = b := ⟨_, rfl⟩
  obtain ⟨X, hX⟩ : ∃ X, X = opened l := ⟨_, rfl⟩
  rw [← hX]
  have HX := Lib.hid hX
  clear hz hl h hX
  obtain ⟨n, hnn⟩ : ∃ n, Hid (l.length = n) := ⟨_, rfl⟩
  rw [hnn.out] at hn ⊢
  have take_snoc : ∀ i, i < n → l.take i ++ [l.getD i ⟨#[]⟩] = l.take (i + 1) := fun i hi => by
    rw [List.take_add_one, List.getD_eq_getElem?_getD, List.getElem?_eq_getElem (by rw [hnn.out]; exact hi)]; rfl
  have HT := Lib.hid take_snoc
  have take_len : ∀ i, i ≤ n → (l.take i).length = i := fun i hi => by rw [List.length_take, hnn.out]; omega
  have HL := Lib.hid take_len
  clear take_snoc take_len
  have HS := Lib.hid hb
  clear hb
  obtain ⟨P, hP⟩ : ∃ P, P = X.kind := ⟨_, rfl⟩
  obtain ⟨R, hR⟩ : ∃ R, R = X.why := ⟨_, rfl⟩
  have HPR : Hid (P = X.kind ∧ R = X.why ∧ X.apps = l) := ⟨hP, hR, by rw [HX.out]; exact opened_kind l⟩
  have LP : Hid ((n = 1 → P = 3 ∧ R = 8) ∧ (¬ n = 1 → P = 4 ∧ R = 9)) := by
    rw [hP, hR, HX.out]
    unfold opened
    rw [hnn.out]
    exact ⟨fun e => by rw [if_pos e]; exact ⟨rfl, rfl⟩, fun e => by rw [if_neg e]; exact ⟨rfl, rfl⟩⟩
  have HLP := LP
  clear hP hR HX LP
  by_cases h1 : n = 1
  · obtain ⟨rfl, rfl⟩ := HLP.out.1 h1
    have y1 : ((n : Int) == 1) = true := by rw [beq_iff_eq]; omega
    have A0 := Lib.hid (opAt_new w 3 8)
    rw [HS.out] at A0
    clear h1 HLP
    go_enter Tryd.func23, Tryd.ntmps23
    go_wp2_with fail
    generalize (w.alloc (.cells #[.int .i64 0, .slice none 0 0, .int .i64 0] 29)).alloc (.cells #[.int .i64 3, .slice none 0 0, .int .i64 8] 29) = W0 at *
    rw [HS.out]
    clear y1
    go_loopg [5, 13] n (fun g t5 t13 wr => ∃ (i : Nat) (v : Value), t13 = .int .i64 (i : Int) ∧ i ≤ n ∧ Hid (i + g = n) ∧ Aside (OpAt w wr b 3 8 v i (strs (l.take i))))
    case atStart => exact ⟨0, _, rfl, Nat.zero_le _, Nat.zero_add _, A0.out⟩
    case round =>
      clear A0
      obtain ⟨i, v, rfl, hi, hg, hA⟩ := hrel
      by_cases hlt : i < n
      · have y0 : (0 : Int) ≤ (i : Int) := by omega
        have y1 : (i : Int) < (n : Int) := by omega
        obtain ⟨b1, o1, rfl, c1⟩ := (HI.out.at).2.2.2 i (by rw [hnn.out]; exact hlt)
        have c1 := (hA.out.below.cell (lt_of_cell c1)).trans c1
        have C := fun w => clone_str (l.getD i ⟨#[]⟩) (HZ.out i (by rw [hnn.out]; exact hlt)) w
        obtain ⟨s, hs⟩ : ∃ s, l.getD i ⟨#[]⟩ = s := ⟨_, rfl⟩
        rw [hs] at C c1
        have HTK : Hid (l.take i ++ [s] = l.take (i + 1)) := by show _ = _; rw [← hs]; exact HT.out i hlt
        have HLI : Hid ((l.take i).length = i) := HL.out i hi
        obtain ⟨M, hM⟩ : ∃ M, l.take i = M := ⟨_, rfl⟩
        rw [hM] at hA HTK HLI
        clear hs hM
        have c2 := hA.out.blk.get 1
        simp only [List.getElem?_toArray, List.getElem?_cons_zero, List.getElem?_cons_succ] at c2
        obtain ⟨av, an, ac, rfl⟩ : ∃ av an ac, v = .slice av an ac := by
          rcases hA.out.row.2 with ⟨rfl, -⟩ | ⟨g, cap, cur, rfl, -⟩
          · exact ⟨_, _, _, rfl⟩
          · exact ⟨_, _, _, rfl⟩
        go_upto_block 1 with fail
        go_cut [5] (fun t5 wx => ∃ v', OpAt w wx b 3 8 v' (i + 1) (strs (l.take (i + 1))))
        case first =>
          go_upto_region 7 with fail
          go_region_law (first
            | (refine step_append_lies _ (by rfl) _ _ 27 (by rfl) b 9 i1 _ 1 16 Tryd.underlying27 hi1 hz1 hs1 hy1 (by rfl) (by decide) (.slice av an ac) i (strs M) (by rfl) (K4.out.row.alloc _) ⟨w4.heap.size, 0, none⟩ 1 1 [.string s] (by rfl) (by rfl) (World.news_of_block (cs := #[.string s]) (t := 9) (fr := (0, 0)) (heap_alloc_new w4 _)) (by simp [Value.oneCell']) (by decide) (by unfold maxLen; omega) (by omega) (by have := K4.out.size; have := K4.out.below.size; simp; omega) (w4.heap.size + 1) (by simp) ?_; intro g1 cap1 w5 hown hgrow hat hl1; obtain ⟨k5, K6⟩ := K4.out.put HLI.out hown hgrow hat; rw [HTK.out] at K6; have c5 := k5.get 1; have f5 := k5.frz 1; simp only [List.getElem?_toArray, List.getElem?_cons_zero, List.getElem?_cons_succ] at c5; have K5 := Lib.hid K6; clear hown hgrow hat hl1 K6 k5)
            | (go_simp; go_at_call 35; refine (C _).mono ?_; rintro e w4 ⟨rfl, hb⟩; have K4 : Aside (OpAt w w4 b 3 8 (.slice av an ac) i (strs M)) := (hA.out.on (Below.refl _ _).drew).on hb; have l4 := K4.out.blk.lt; have c4 := K4.out.blk.get 1; simp only [List.getElem?_toArray, List.getElem?_cons_zero, List.getElem?_cons_succ] at c4; clear hb))
          all_goals
            go_wp2_with fail
            go_meet
            exact ⟨_, K5.out⟩
        case rest =>
          obtain ⟨v', hA'⟩ := hcut
          have HA' := Lib.hid hA'
          clear hA' hA c1 c2 C
          go_wp2_with fail
          go_roundg (gk - 1)
          case measure => have := hg.out; omega
          case rel => exact ⟨i + 1, v', by go_num, by omega, by have := hg.out; show _ = _; omega, HA'.out⟩
      · have y1 : ¬ (i : Int) < (n : Int) := by omega
        obtain rfl : i = n := by omega
        obtain ⟨av, an, ac, rfl⟩ : ∃ av an ac, v = .slice av an ac := by
          rcases hA.out.row.2 with ⟨rfl, -⟩ | ⟨g, cap, cur, rfl, -⟩
          · exact ⟨_, _, _, rfl⟩
          · exact ⟨_, _, _, rfl⟩
        have HA := Lib.hid hA.out
        have c0 := hA.out.blk.get 0
        have c1 := hA.out.blk.get 1
        have c2 := hA.out.blk.get 2
        have d0 := hA.out.res.get 0
        have d1 := hA.out.res.get 1
        have d2 := hA.out.res.get 2
        have f0 := hA.out.res.frz 0
        have f1 := hA.out.res.frz 1
        have f2 := hA.out.res.frz 2
        simp only [List.getElem?_toArray, List.getElem?_cons_zero, List.getElem?_cons_succ] at c0 c1 c2 d0 d1 d2
        clear hA
        go_wp2_with fail
        have T0 := HA.out.ends (HL.out _ (Nat.le_refl _)) (.int .i64 3) (.slice av an ac) (.int .i64 8)
        rw [List.take_of_length_le (by rw [hnn.out]; exact Nat.le_refl _)] at T0
        refine bodyPost_ret (v := .agg #[.int .i64 3, .slice av an ac, .int .i64 8]) (by simp [results, Tryd.results23, go_sem, d0, d1, d2]) rfl ⟨_, rfl, ⟨_, by rw [← HPR.out.1, ← HPR.out.2.1], by rw [HPR.out.2.2]; exact T0.1⟩, T0.2⟩
  · obtain ⟨rfl, rfl⟩ := HLP.out.2 h1
    have y1 : ((n : Int) == 1) = false := by rw [beq_eq_false_iff_ne]; omega
    have A0 := Lib.hid (opAt_new w 4 9)
    rw [HS.out] at A0
    clear h1 HLP
    go_enter Tryd.func23, Tryd.ntmps23
    go_wp2_with fail
    generalize (w.alloc (.cells #[.int .i64 0, .slice none 0 0, .int .i64 0] 29)).alloc (.cells #[.int .i64 4, .slice none 0 0, .int .i64 9] 29) = W0 at *
    rw [HS.out]
    clear y1
    go_loopg [5, 13] n (fun g t5 t13 wr => ∃ (i : Nat) (v : Value), t13 = .int .i64 (i : Int) ∧ i ≤ n ∧ Hid (i + g = n) ∧ Aside (OpAt w wr b 4 9 v i (strs (l.take i))))
    case atStart => exact ⟨0, _, rfl, Nat.zero_le _, Nat.zero_add _, A0.out⟩
    case round =>
      clear A0
      obtain ⟨i, v, rfl, hi, hg, hA⟩ := hrel
      by_cases hlt : i < n
      · have y0 : (0 : Int) ≤ (i : Int) := by omega
        have y1 : (i : Int) < (n : Int) := by omega
        obtain ⟨b1, o1, rfl, c1⟩ := (HI.out.at).2.2.2 i (by rw [hnn.out]; exact hlt)
        have c1 := (hA.out.below.cell (lt_of_cell c1)).trans c1
        have C := fun w => clone_str (l.getD i ⟨#[]⟩) (HZ.out i (by rw [hnn.out]; exact hlt)) w
        obtain ⟨s, hs⟩ : ∃ s, l.getD i ⟨#[]⟩ = s := ⟨_, rfl⟩
        rw [hs] at C c1
        have HTK : Hid (l.take i ++ [s] = l.take (i + 1)) := by show _ = _; rw [← hs]; exact HT.out i hlt
        have HLI : Hid ((l.take i).length = i) := HL.out i hi
        obtain ⟨M, hM⟩ : ∃ M, l.take i = M := ⟨_, rfl⟩
        rw [hM] at hA HTK HLI
        clear hs hM
        have c2 := hA.out.blk.get 1
        simp only [List.getElem?_toArray, List.getElem?_cons_zero, List.getElem?_cons_succ] at c2
        obtain ⟨av, an, ac, rfl⟩ : ∃ av an ac, v = .slice av an ac := by
          rcases hA.out.row.2 with ⟨rfl, -⟩ | ⟨g, cap, cur, rfl, -⟩
          · exact ⟨_, _, _, rfl⟩
          · exact ⟨_, _, _, rfl⟩
        go_upto_block 1 with fail
        go_cut [5] (fun t5 wx => ∃ v', OpAt w wx b 4 9 v' (i + 1) (strs (l.take (i + 1))))
        case first =>
          go_upto_region 7 with fail
          go_region_law (first
            | (refine step_append_lies _ (by rfl) _ _ 27 (by rfl) b 9 i1 _ 1 16 Tryd.underlying27 hi1 hz1 hs1 hy1 (by rfl) (by decide) (.slice av an ac) i (strs M) (by rfl) (K4.out.row.alloc _) ⟨w4.heap.size, 0, none⟩ 1 1 [.string s] (by rfl) (by rfl) (World.news_of_block (cs := #[.string s]) (t := 9) (fr := (0, 0)) (heap_alloc_new w4 _)) (by simp [Value.oneCell']) (by decide) (by unfold maxLen; omega) (by omega) (by have := K4.out.size; have := K4.out.below.size; simp; omega) (w4.heap.size + 1) (by simp) ?_; intro g1 cap1 w5 hown hgrow hat hl1; obtain ⟨k5, K6⟩ := K4.out.put HLI.out hown hgrow hat; rw [HTK.out] at K6; have c5 := k5.get 1; have f5 := k5.frz 1; simp only [List.getElem?_toArray, List.getElem?_cons_zero, List.getElem?_cons_succ] at c5; have K5 := Lib.hid K6; clear hown hgrow hat hl1 K6 k5)
            | (go_simp; go_at_call 35; refine (C _).mono ?_; rintro e w4 ⟨rfl, hb⟩; have K4 : Aside (OpAt w w4 b 4 9 (.slice av an ac) i (strs M)) := (hA.out.on (Below.refl _ _).drew).on hb; have l4 := K4.out.blk.lt; have c4 := K4.out.blk.get 1; simp only [List.getElem?_toArray, List.getElem?_cons_zero, List.getElem?_cons_succ] at c4; clear hb))
          all_goals
            go_wp2_with fail
            go_meet
            exact ⟨_, K5.out⟩
        case rest =>
          obtain ⟨v', hA'⟩ := hcut
          have HA' := Lib.hid hA'
          clear hA' hA c1 c2 C
          go_wp2_with fail
          go_roundg (gk - 1)
          case measure => have := hg.out; omega
          case rel => exact ⟨i + 1, v', by go_num, by omega, by have := hg.out; show _ = _; omega, HA'.out⟩
      · have y1 : ¬ (i : Int) < (n : Int) := by omega
        obtain rfl : i = n := by omega
        obtain ⟨av, an, ac, rfl⟩ : ∃ av an ac, v = .slice av an ac := by
          rcases hA.out.row.2 with ⟨rfl, -⟩ | ⟨g, cap, cur, rfl, -⟩
          · exact ⟨_, _, _, rfl⟩
          · exact ⟨_, _, _, rfl⟩
        have HA := Lib.hid hA.out
        have c0 := hA.out.blk.get 0
        have c1 := hA.out.blk.get 1
        have c2 := hA.out.blk.get 2
        have d0 := hA.out.res.get 0
        have d1 := hA.out.res.get 1
        have d2 := hA.out.res.get 2
        have f0 := hA.out.res.frz 0
        have f1 := hA.out.res.frz 1
        have f2 := hA.out.res.frz 2
        simp only [List.getElem?_toArray, List.getElem?_cons_zero, List.getElem?_cons_succ] at c0 c1 c2 d0 d1 d2
        clear hA
        go_wp2_with fail
        have T0 := HA.out.ends (HL.out _ (Nat.le_refl _)) (.int .i64 4) (.slice av an ac) (.int .i64 9)
        rw [List.take_of_length_le (by rw [hnn.out]; exact Nat.le_refl _)] at T0
        refine bodyPost_ret (v := .agg #[.int .i64 4, .slice av an ac, .int .i64 9]) (by simp [results, Tryd.results23, go_sem, d0, d1, d2]) rfl ⟨_, rfl, ⟨_, by rw [← HPR.out.1, ← HPR.out.2.1], by rw [HPR.out.2.2]; exact T0.1⟩, T0.2⟩
end Go.Proofs.YtmgdkdohadaknaaDoor.pick
