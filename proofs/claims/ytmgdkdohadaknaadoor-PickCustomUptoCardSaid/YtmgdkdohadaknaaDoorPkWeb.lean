/- pick.Custom and pick.Web. -/
import Derived.Test.YtmgdkdohadaknaaDoorPkOpen
import Derived.Test.YtmgdkdohadaknaaDoorPkWhy
import Derived.Test.YtmgdkdohadaknaaDoorPkPut
set_option linter.unusedSimpArgs false
set_option linter.unusedVariables false
namespace Go.Proofs.YtmgdkdohadaknaaDoor.pick
open Go.RowKit Go.Proofs.YtmgdkdohadaknaaDoor.errs Go.Proofs.YtmgdkdohadaknaaDoor.wire

/-- The result's cells, stored into: what stood stands. -/
theorem below_res {w wx : World} (hb : Below w.heap.size w wx) (u0 u1 u2 : Value) : Below w.heap.size w (((wx.setCell ⟨w.heap.size, 0, none⟩ u0).setCell ⟨w.heap.size, 1, none⟩ u1).setCell ⟨w.heap.size, 2, none⟩ u2) :=
  ((hb.setCell (p := ⟨w.heap.size, 0, none⟩) (Nat.le_refl _) _).setCell (p := ⟨w.heap.size, 1, none⟩) (Nat.le_refl _) _).setCell (p := ⟨w.heap.size, 2, none⟩) (Nat.le_refl _) _

theorem StrsIn.set {w : World} {v : Value} {l : List ByteArray} (h : StrsIn w v l) {rb : Nat} {cs : Array Value} {t : TypeId} (hr : Blk w rb cs t) (hns : ∀ (i : Nat) (s : ByteArray), cs[i]? ≠ some (Value.string s)) (i : Nat) (u : Value) : StrsIn (w.setCell ⟨rb, i, none⟩ u) v l := by
  obtain ⟨a, cap, rfl, h1, h2, h3⟩ := h
  refine ⟨a, cap, rfl, h1, h2, fun h => ?_⟩
  obtain ⟨b, o, rfl, hB⟩ := h3 h
  refine ⟨b, o, rfl, fun j hj => ?_⟩
  have hc := hB j hj
  have hne : b ≠ rb := fun e => by subst e; rw [hr.get] at hc; exact hns _ _ hc
  rw [← hc]
  exact World.cell?_setCell_other _ _ _ _ (fun e => hne (congrArg Addr.block e).symm)
theorem plain3 (k r : Int) (a : Option Addr) (n c : Nat) : ∀ (i : Nat) (s : ByteArray), (#[.int .i64 k, .slice a n c, .int .i64 r] : Array Value)[i]? ≠ some (Value.string s) := by
  intro i s h
  rw [← Array.getElem?_toList] at h
  match i, h with
  | 0, h => simp at h
  | 1, h => simp at h
  | 2, h => simp at h
  | n + 3, h => simp at h
/-- An answer's texts, behind the stores into the result's cells. -/
theorem StrsIn.res {w : World} {v : Value} {l : List ByteArray} (h : StrsIn w v l) {rb : Nat} {k r k' r' : Int} {a a' : Option Addr} {n c n' c' : Nat} {t : TypeId} (hr : Blk w rb #[.int .i64 k, .slice a n c, .int .i64 r] t) :
    StrsIn (((w.setCell ⟨rb, 0, none⟩ (.int .i64 k')).setCell ⟨rb, 1, none⟩ (.slice a' n' c')).setCell ⟨rb, 2, none⟩ (.int .i64 r')) v l :=
  ((h.set hr (plain3 _ _ _ _ _) _ _).set (hr.set 0 (.int .i64 k')) (plain3 k' r a n c) _ _).set ((hr.set 0 (.int .i64 k')).set 1 (.slice a' n' c')) (plain3 k' r a' n' c') _ _

/-- The same, of an answer's texts in a block of the call's own. -/
theorem OwnS.res {w : World} {B B' : Nat} {v : Value} {l : List ByteArray} (h : OwnS w B v l) {rb : Nat} (hrb : rb < B ∧ B' ≤ B) {u0 u1 u2 : Value} :
    OwnS (((w.setCell ⟨rb, 0, none⟩ u0).setCell ⟨rb, 1, none⟩ u1).setCell ⟨rb, 2, none⟩ u2) B' v l := by
  have gr : ∀ (W : World) (i : Nat) (u : Value), OwnS W B v l → OwnS (W.setCell ⟨rb, i, none⟩ u) B v l := fun W i u hw => World.ownsRow.kept hw (grown_set W rb i u) (by
    cases hv : v.ownBlock with
    | none => exact .inl rfl
    | some q => exact .inr (fun e => by have := (World.ownsRow.lt hw q hv).1; have := Option.some.inj e; omega))
  exact (gr _ _ _ (gr _ _ _ (gr _ _ _ h))).mono hrb.2

set_option maxHeartbeats 1000000 in
theorem custom_own (l : List ByteArray) (hl : ∀ s ∈ l, s.size ≤ 281474976710656) (hn : l.length ≤ 1000) (v : Value) (w : World) (h : StrsIn w v l) :
    Calls Tryd.prog 14 #[v] w fun e w' => ∃ x, e = .returned x ∧ AnsO w' w.heap.size x (customA l) ∧ Below w.heap.size w w' := by
  obtain ⟨a, cap, rfl⟩ := h.form
  have hb0 : Below w.heap.size w (w.alloc (.cells #[.int .i64 0, .slice none 0 0, .int .i64 0] 29)) := (Below.refl _ w).alloc (Nat.le_refl _) _
  have C := opened_any l hl hn _ _ (h.below hb0)
  have HB0 := Lib.hid hb0
  clear hb0 hl h
  obtain ⟨n, hnn⟩ : ∃ n, Hid (l.length = n) := ⟨_, rfl⟩
  rw [hnn.out] at hn C ⊢
  by_cases h0 : n = 0
  · have hl0 : l = [] := List.length_eq_zero_iff.1 (hnn.out.trans h0)
    have y1 : ((n : Int) == 0) = true := by rw [beq_iff_eq]; omega
    subst hl0
    clear C h0
    go_enter Tryd.func14, Tryd.ntmps14
    go_wp2_with fail
    refine bodyPost_ret (v := .agg #[.int .i64 1, .slice none 0 0, .int .i64 4]) (by simp [results, Tryd.results14, go_sem]) rfl ⟨_, rfl, ⟨_, rfl, ownS_nil _ _⟩, ?_⟩
    exact (Below.refl _ w).alloc (Nat.le_refl _) _
  · have y1 : ((n : Int) == 0) = false := by rw [beq_eq_false_iff_ne]; omega
    have hX : customA l = opened l := if_neg (fun e => h0 (by rw [← hnn.out, e]; rfl))
    rw [hX]
    clear h0 hX
    obtain ⟨X, hX⟩ : ∃ X, opened l = X := ⟨_, rfl⟩
    rw [hX] at C ⊢
    clear hX
    have r0 := blk_new w #[.int .i64 0, .slice none 0 0, .int .i64 0] 29
    have HR := Lib.hid r0
    clear r0
    go_enter Tryd.func14, Tryd.ntmps14
    go_wp2_with fail
    refine C.mono ?_; rintro e w1 ⟨x, rfl, ⟨s, rfl, hs⟩, hb⟩
    obtain ⟨sa, sc, rfl⟩ := hs.form
    have r1 := HR.out.below hb HR.out.lt
    have hB := HB0.out.trans (hb.mono HB0.out.size)
    have d0 := r1.get 0
    have d1 := r1.get 1
    have d2 := r1.get 2
    have f0 := r1.frz 0
    have f1 := r1.frz 1
    have f2 := r1.frz 2
    simp only [List.getElem?_toArray, List.getElem?_cons_zero, List.getElem?_cons_succ] at d0 d1 d2
    have H1 := Lib.hid (And.intro hs (And.intro r1 hB))
    clear hs r1 hB hb C HR
    go_wp2_with fail
    exact bodyPost_ret (v := .agg #[.int .i64 X.kind, .slice sa X.apps.length sc, .int .i64 X.why]) (by simp [results, Tryd.results14, go_sem, d0, d1, d2]) rfl ⟨_, rfl, ⟨_, rfl, H1.out.1.res (by simp)⟩, below_res H1.out.2.2 _ _ _⟩

theorem custom_any (l : List ByteArray) (hl : ∀ s ∈ l, s.size ≤ 281474976710656) (hn : l.length ≤ 1000) (v : Value) (w : World) (h : StrsIn w v l) :
    Calls Tryd.prog 14 #[v] w fun e w' => ∃ x, e = .returned x ∧ AnsV w' x (customA l) ∧ Below w.heap.size w w' :=
  (custom_own l hl hn v w h).mono fun e w' ⟨x, h1, h2, h3⟩ => ⟨x, h1, h2.ans, h3⟩

theorem appsOf_len (L : List Cd) : (appsOf L).length ≤ L.length := by
  unfold appsOf
  rw [List.length_map]
  exact List.length_filter_le _ _
theorem appsOf_mem {L : List Cd} {s : ByteArray} (h : s ∈ appsOf L) : ∃ x ∈ L, x.app = s := by
  obtain ⟨x, hx, rfl⟩ := List.mem_map.1 h
  exact ⟨x, (List.mem_filter.1 hx).1, rfl⟩
theorem cd_snoc {L : List Cd} {i : Nat} (h : i < L.length) : L.take i ++ [cdAt L i] = L.take (i + 1) := by
  unfold cdAt
  rw [List.take_add_one, List.getD_eq_getElem?_getD, List.getElem?_eq_getElem h]; rfl
theorem cdAt_mem {L : List Cd} {i : Nat} (h : i < L.length) : cdAt L i ∈ L := by
  unfold cdAt
  rw [List.getD_eq_getElem?_getD, List.getElem?_eq_getElem h]
  exact List.getElem_mem h

set_option maxRecDepth 100000 in
set_option maxHeartbeats 2000000 in
theorem web_any (L : List Cd) (hl : ∀ x ∈ L, x.app.size ≤ 281474976710656) (hn : L.length ≤ 1000) (v : Value) (w : World) (h : CdsIn w v L) :
    Calls Tryd.prog 11 #[v] w fun e w' => ∃ x, e = .returned x ∧ AnsV w' x (webA L) ∧ Below w.heap.size w w' := by
  obtain ⟨a, cap, rfl⟩ := h.form
  obtain ⟨i1, hi1, hz1, hs1, hy1⟩ := info_of infoText
  obtain ⟨W0, hW0⟩ : ∃ W0, w.alloc (.cells #[.int .i64 0, .slice none 0 0, .int .i64 0] 29) = W0 := ⟨_, rfl⟩
  have hb0 : Below w.heap.size w W0 := by rw [← hW0]; exact (Below.refl _ w).alloc (Nat.le_refl _) _
  have hR : Blk W0 w.heap.size #[.int .i64 0, .slice none 0 0, .int .i64 0] 29 := by rw [← hW0]; exact blk_new w _ _
  have HI := Lib.hid (h.below hb0)
  have HB0 := Lib.hid hb0
  have HR := Lib.hid hR
  have HL := Lib.hid hl
  have HW := Lib.hid hW0
  clear hb0 hR hl h hW0
  obtain ⟨n, hnn⟩ : ∃ n, Hid (L.length = n) := ⟨_, rfl⟩
  rw [hnn.out] at hn ⊢
  obtain ⟨X, hX⟩ : ∃ X, Hid (webA L = X) := ⟨_, rfl⟩
  rw [hX.out]
  go_enter Tryd.func11, Tryd.ntmps11
  go_wp2_with fail
  rw [HW.out]
  clear HW
  go_loopg [3, 5, 8] n (fun g t3 t5 t8 wr => ∃ (i : Nat) (v : Value), v = t3 ∧ t8 = .int .i64 (i : Int) ∧ i ≤ n ∧ Hid (i + g = n) ∧ Aside (OwnS wr W0.heap.size v (appsOf (L.take i))) ∧ Aside (Below W0.heap.size W0 wr))
  case atStart => exact ⟨0, _, rfl, rfl, Nat.zero_le _, Nat.zero_add _, ownS_nil _ _, Below.refl _ _⟩
  case round =>
    obtain ⟨i, v, rfl, rfl, hi, hg, hO, hB⟩ := hrel
    by_cases hlt : i < n
    · have y0 : (0 : Int) ≤ (i : Int) := by omega
      have y1 : (i : Int) < (n : Int) := by omega
      have hlt' : i < L.length := by rw [hnn.out]; exact hlt
      obtain ⟨b1, o1, rfl, hc⟩ := (HI.out.at).2.2.2 i hlt'
      obtain ⟨e0, e1, e2, e3, e4⟩ := hc.below hB.out
      have HS : Hid (L.take i ++ [cdAt L i] = L.take (i + 1)) := cd_snoc hlt'
      have hal : (appsOf (L.take i)).length ≤ i := Nat.le_trans (appsOf_len _) (by rw [List.length_take]; omega)
      have HM : Hid (appsOf (L.take (i + 1)) = if ready (cdAt L i) then appsOf (L.take i) ++ [(cdAt L i).app] else appsOf (L.take i)) := by
        show _ = _
        rw [← HS.out]; exact appsOf_snoc _ _
      obtain ⟨M, hM⟩ : ∃ M, appsOf (L.take i) = M := ⟨_, rfl⟩
      rw [hM] at hal HM hO
      have C := fun w => ready_any (cdAt L i) w
      clear hc hlt' hM
      generalize cdAt L i = x at *
      obtain ⟨xa, xc, xv, xl, xo⟩ := x
      simp only at e0 e1 e2 e3 e4
      have hW1 : Hid (Below W0.heap.size W0 (wr.alloc (.cells #[.string xa, .bool xc, .bool xv, .bool xl, .bool xo] 25))) := hB.out.alloc hB.out.size _
      have hO1 : Hid (OwnS (wr.alloc (.cells #[.string xa, .bool xc, .bool xv, .bool xl, .bool xo] 25)) W0.heap.size v M) := hO.out.kept ((Below.refl _ wr).alloc (Nat.le_refl _) _)
      have g0 : (wr.alloc (.cells #[.string xa, .bool xc, .bool xv, .bool xl, .bool xo] 25)).cell? ⟨wr.heap.size, 0, none⟩ = some (.string xa) := by rw [World.cell?_alloc_at _ _ _ _ rfl]; rfl
      clear hB hO
      go_wp2_with fail
      generalize wr.alloc (.cells #[.string xa, .bool xc, .bool xv, .bool xl, .bool xo] 25) = W1 at *
      generalize wr.heap.size = q0 at *
      refine (C _).mono ?_; rintro e w1 ⟨rfl, hb⟩
      have g0 := (hb.cell (p := ⟨q0, 0, none⟩) (lt_of_cell g0)).trans g0
      have hW2 := Lib.hid (hW1.out.trans (hb.mono hW1.out.size))
      have hO2 := Lib.hid (hO1.out.kept hb)
      clear hb hW1 hO1 C e0 e1 e2 e3 e4
      cases hr : ready ⟨xa, xc, xv, xl, xo⟩ with
      | false =>
        rw [hr] at HM
        have HM := Lib.hid (HM.out.trans (if_neg Bool.false_ne_true))
        clear hr
        go_wp2_with fail
        go_roundg (gk - 1)
        case measure => have := hg.out; omega
        case rel => exact ⟨i + 1, v, rfl, by go_num, by omega, by have := hg.out; show _ = _; omega, by rw [HM.out]; exact hO2.out, hW2.out⟩
      | true =>
        rw [hr] at HM
        have HM := Lib.hid (HM.out.trans (if_pos rfl))
        clear hr
        go_wp2_with (at_builtin; refine push_str hi1 hz1 hs1 hy1 hO2.out xa (by omega) hW2.out.size rfl _ _ rfl rfl _ rfl rfl ?_)
        intro v' w2 hp
        have HP := Lib.hid (And.intro hp.own (hW2.out.trans hp.below))
        clear hp g0
        go_wp2_with fail
        go_roundg (gk - 1)
        case measure => have := hg.out; omega
        case rel => exact ⟨i + 1, v', rfl, by go_num, by omega, by have := hg.out; show _ = _; omega, by rw [HM.out]; exact HP.out.1, HP.out.2⟩
    · obtain rfl : i = n := by omega
      have y1 : ¬ (i : Int) < (i : Int) := by omega
      rw [List.take_of_length_le (by rw [hnn.out]; exact Nat.le_refl _)] at hO
      have r1 := HR.out.below hB.out HR.out.lt
      have d0 := r1.get 0
      have d1 := r1.get 1
      have d2 := r1.get 2
      have f0 := r1.frz 0
      have f1 := r1.frz 1
      have f2 := r1.frz 2
      simp only [List.getElem?_toArray, List.getElem?_cons_zero, List.getElem?_cons_succ] at d0 d1 d2
      have hBB := Lib.hid (HB0.out.trans (hB.out.mono HB0.out.size))
      have C := whyNone_any _ L wr (HI.out.below hB.out)
      rw [hnn.out] at C
      have hO3 := hO.out.reads
      have D := fun v (h : StrsIn wr v (appsOf L)) => opened_any (appsOf L) (fun s hs => by obtain ⟨x, hx, rfl⟩ := appsOf_mem hs; exact HL.out x hx) (Nat.le_trans (appsOf_len L) (by rw [hnn.out]; exact hn)) v wr h
      obtain ⟨va, vc, rfl⟩ := hO3.form
      obtain ⟨m, hm⟩ : ∃ m, Hid ((appsOf L).length = m) := ⟨_, rfl⟩
      have hO4 := Lib.hid hO3
      have HR1 := Lib.hid r1
      rw [hm.out] at hO4 ⊢
      by_cases hz : m = 0
      · have hz2 : appsOf L = [] := List.length_eq_zero_iff.1 (hm.out.trans hz)
        have hXX : Hid (X = ⟨2, [], whyNone L⟩) := hX.out.symm.trans (if_pos hz2)
        have y2 : ((m : Int) == 0) = true := by rw [beq_iff_eq]; omega
        generalize whyNone L = wn at *
        clear D hO hO3 hz hz2 hB HI r1
        go_wp2_with fail
        refine C.mono ?_; rintro e w1 ⟨rfl, hb⟩
        have r1 := HR1.out.below hb HR1.out.lt
        have hB1 := hBB.out.trans (hb.mono hBB.out.size)
        have d0 := r1.get 0
        have d1 := r1.get 1
        have d2 := r1.get 2
        have f0 := r1.frz 0
        have f1 := r1.frz 1
        have f2 := r1.frz 2
        simp only [List.getElem?_toArray, List.getElem?_cons_zero, List.getElem?_cons_succ] at d0 d1 d2
        have HB1 := Lib.hid hB1
        clear hb hB1 C r1
        go_wp2_with fail
        exact bodyPost_ret (v := .agg #[.int .i64 2, .slice none 0 0, .int .i64 wn]) (by simp [results, Tryd.results11, go_sem, d0, d1, d2]) rfl ⟨_, rfl, ⟨_, by rw [hXX.out], by rw [hXX.out]; exact strsIn_nil _⟩, below_res HB1.out _ _ _⟩
      · have hXX : Hid (X = opened (appsOf L)) := hX.out.symm.trans (if_neg (fun e => hz (by rw [← hm.out, e]; rfl)))
        have y2 : ((m : Int) == 0) = false := by rw [beq_eq_false_iff_ne]; omega
        have E := D _ hO4.out
        clear D hO hO3 hz hB HI C r1 hO4
        go_wp2_with fail
        refine E.mono ?_; rintro e w1 ⟨x, rfl, ⟨s, rfl, hs⟩, hb⟩
        have hs := hs.reads
        obtain ⟨sa, sc, rfl⟩ := hs.form
        have r1 := HR1.out.below hb HR1.out.lt
        have hB1 := hBB.out.trans (hb.mono hBB.out.size)
        have d0 := r1.get 0
        have d1 := r1.get 1
        have d2 := r1.get 2
        have f0 := r1.frz 0
        have f1 := r1.frz 1
        have f2 := r1.frz 2
        simp only [List.getElem?_toArray, List.getElem?_cons_zero, List.getElem?_cons_succ] at d0 d1 d2
        rw [← hXX.out] at hs ⊢
        have H1 := Lib.hid (And.intro hs (And.intro r1 hB1))
        clear hs r1 hB1 hb E
        go_wp2_with fail
        exact bodyPost_ret (v := .agg #[.int .i64 X.kind, .slice sa X.apps.length sc, .int .i64 X.why]) (by simp [results, Tryd.results11, go_sem, d0, d1, d2]) rfl ⟨_, rfl, ⟨_, rfl, H1.out.1.res H1.out.2.1⟩, below_res H1.out.2.2 _ _ _⟩
end Go.Proofs.YtmgdkdohadaknaaDoor.pick
