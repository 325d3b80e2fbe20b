/- The document's Ask. -/
import Derived.Test.YtelofhplpeeplaaDoorWrRlate
import Derived.Test.YtelofhplpeeplaaDoorWrAsk
import Derived.Maps.AppendAt
set_option linter.unusedSimpArgs false
set_option linter.unusedVariables false
namespace Go.Proofs.YtelofhplpeeplaaDoor.wire
open Go.RowKit Go.Proofs.YtelofhplpeeplaaDoor.errs

/-- What stands within a call of Ask. -/
structure Rk (w wx : World) (mb base b : Nat) (vl vs vl' vs' : Value) (M : Nat) (LL LS : List Rq) (arr : Array Value) : Prop where
  blk : Blk wx mb #[vl', vs', .int .u64 (M : Int)] 41
  rows : wx.ownsRow base 45 6 vl' LL.length (flatE enc6 LL)
  ticks : wx.ownsRow base 22 1 vs' LS.length (sinces LS)
  but : But (Its mb vl vs) w wx
  one : Blk wx b arr 45
  two : Blk wx (b + 1) zero6 45
  its : ∀ k, Its mb vl' vs' k → (Its mb vl vs k ∨ w.heap.size ≤ k) ∧ k ≠ b ∧ k ≠ b + 1 ∧ k < wx.heap.size
  apart : vl'.ownBlock ≠ some mb ∧ vs'.ownBlock ≠ some mb ∧ ∀ q, vl'.ownBlock = some q → vs'.ownBlock ≠ some q
  size : w.heap.size = b ∧ base ≤ mb ∧ mb < b ∧ b + 1 < wx.heap.size
theorem Rk.new {w : World} {mb base N : Nat} {vl vs : Value} {L : List Rq} (h : Rb w mb base vl vs N L) (M : Nat) (arr : Array Value) :
    Rk w (((w.setCell ⟨mb, 2, none⟩ (.int .u64 (M : Int))).alloc (.cells arr 45)).alloc (.cells zero6 45)) mb base w.heap.size vl vs vl vs M L L arr := by
  have hl := h.blk.lt
  have e1 : (w.setCell ⟨mb, 2, none⟩ (.int .u64 (M : Int))).heap.size = w.heap.size := by simp
  have b1 := blk_new (w.setCell ⟨mb, 2, none⟩ (.int .u64 (M : Int))) arr 45
  have b2 := blk_new ((w.setCell ⟨mb, 2, none⟩ (.int .u64 (M : Int))).alloc (.cells arr 45)) zero6 45
  rw [e1] at b1
  rw [show ((w.setCell ⟨mb, 2, none⟩ (.int .u64 (M : Int))).alloc (.cells arr 45)).heap.size = w.heap.size + 1 by simp] at b2
  have g := grown_set w mb 2 (.int .u64 (M : Int))
  have ne : ∀ v : Value, v.ownBlock ≠ some mb → v.ownBlock = none ∨ v.ownBlock ≠ some mb := fun v hv => .inr hv
  have B0 : But (Its mb vl vs) w (w.setCell ⟨mb, 2, none⟩ (.int .u64 (M : Int))) := (But.refl _ w).set mb 2 _ (.inl (.inl rfl))
  refine ⟨((h.blk.set 2 _).alloc _).alloc _, ((h.rows.kept g (ne _ h.apart.1)).alloc _).alloc _, ((h.ticks.kept g (ne _ h.apart.2.1)).alloc _).alloc _, (B0.on (up _ _) (Nat.le_refl _)).on (up _ _) (Nat.le_refl _), b1.alloc _, b2, fun k hk => ?_, h.apart, rfl, h.above, hl, by simp⟩
  have := (h.lt k hk).2
  refine ⟨.inl hk, by omega, by omega, by simp; omega⟩
theorem Rk.grow {w wx w2 : World} {mb base b : Nat} {vl vs vl' vs' : Value} {M : Nat} {LL LS : List Rq} {arr : Array Value} (h : Rk w wx mb base b vl vs vl' vs' M LL LS arr) {o : Obj} {r : Option Nat} (hr : ∀ q, r = some q → Its mb vl' vs' q ∧ q ≠ mb) (hgrow : ((wx.alloc o).drew).grownBy w2 r) :
    (∀ k, k < wx.heap.size → r ≠ some k → w2.heap[k]? = wx.heap[k]?) ∧ But (Its mb vl vs) w w2 ∧ wx.heap.size < w2.heap.size := by
  have hs : wx.heap.size < w2.heap.size := Nat.lt_of_lt_of_le (by show wx.heap.size < (wx.alloc o).heap.size; simp) hgrow.size
  refine ⟨fun k hk hn => ?_, ?_, hs⟩
  · rw [hgrow.block k (by show k < (wx.alloc o).heap.size; simp; omega) (fun e => hn e.symm)]
    exact heap_alloc_old wx o hk
  · have B1 : But (Its mb vl vs) w ((wx.alloc o).drew) := h.but.on (Below.drew (up wx o)) (Nat.le_refl _)
    exact B1.grown hgrow (fun q hq => ((h.its q (hr q hq).1).1))
theorem Rk.putL {w wx w2 : World} {mb base b : Nat} {vl vs vl' vs' v9 : Value} {M : Nat} {LL LS : List Rq} {arr : Array Value} (h : Rk w wx mb base b vl vs vl' vs' M LL LS arr) {o : Obj} (x : Rq)
    (hown : w2.ownsRow base 45 6 v9 (LL.length + 1) (flatE enc6 LL ++ enc6 x)) (hgrow : ((wx.alloc o).drew).grownBy w2 vl'.ownBlock) (hat : v9.ownBlock = vl'.ownBlock ∨ v9.ownBlock = some ((wx.alloc o).drew).heap.size) :
    Blk w2 mb #[vl', vs', .int .u64 (M : Int)] 41 ∧ Rk w (w2.setCell ⟨mb, 0, none⟩ v9) mb base b vl vs v9 vs' M (LL ++ [x]) LS arr := by
  obtain ⟨hb, hbut, hsz⟩ := h.grow (r := vl'.ownBlock) (fun q hq => ⟨.inr (.inl hq), fun e => h.apart.1 (by rw [← e]; exact hq)⟩) hgrow
  obtain ⟨s1, s2, s3, s4⟩ := h.size
  have k1 : Blk w2 mb #[vl', vs', .int .u64 (M : Int)] 41 := (hb mb h.blk.lt h.apart.1).trans h.blk
  have k2 : Blk w2 b arr 45 := (hb b h.one.lt (fun e => (h.its b (.inr (.inl e))).2.1 rfl)).trans h.one
  have k3 : Blk w2 (b + 1) zero6 45 := (hb (b + 1) h.two.lt (fun e => (h.its _ (.inr (.inl e))).2.2.1 rfl)).trans h.two
  have hv9 : ∀ q, v9.ownBlock = some q → (vl'.ownBlock = some q ∨ wx.heap.size < q) ∧ q < w2.heap.size := fun q hq => by
    refine ⟨?_, (hown.lt q hq).2⟩
    rcases hat with e | e
    · exact .inl (e ▸ hq)
    · rw [e] at hq
      have hq : (wx.alloc o).heap.size = q := Option.some.inj hq
      simp at hq
      exact .inr (by omega)
  have hT : w2.ownsRow base 22 1 vs' LS.length (sinces LS) := by
    refine ⟨h.ticks.1, ?_⟩
    rcases h.ticks.2 with h0 | ⟨g, cap, cur, rfl, hB, hg, r⟩
    · exact .inl h0
    · exact .inr ⟨g, cap, cur, rfl, hB, (hb g (Array.getElem?_eq_some_iff.1 hg).1 (fun e => h.apart.2.2 g e rfl)).trans hg, r⟩
  have hl1 := h.blk.lt
  have a1 : v9.ownBlock ≠ some mb := fun e => by
    rcases (hv9 mb e).1 with h' | h'
    · exact h.apart.1 h'
    · omega
  have gs := grown_set w2 mb 0 v9
  have hlen : (LL ++ [x]).length = LL.length + 1 := by rw [List.length_append]; rfl
  refine ⟨k1, k1.set 0 _, ?_, hT.kept gs (.inr h.apart.2.1), hbut.set mb 0 _ (.inl (.inl rfl)), k2.other _ (by show b ≠ mb; omega) _, k3.other _ (by show b + 1 ≠ mb; omega) _, fun k hk => ?_, ⟨a1, h.apart.2.1, fun q h1 h2 => ?_⟩, s1, s2, s3, by simp; omega⟩
  · rw [hlen, flatE_append, flatE_one]; exact hown.kept gs (.inr a1)
  · have old : Its mb vl' vs' k → (Its mb vl vs k ∨ w.heap.size ≤ k) ∧ k ≠ b ∧ k ≠ b + 1 ∧ k < (w2.setCell ⟨mb, 0, none⟩ v9).heap.size := fun h' => by
      obtain ⟨o1, o2, o3, o4⟩ := h.its k h'
      exact ⟨o1, o2, o3, by simp; omega⟩
    rcases hk with hk | hk | hk
    · exact old (.inl hk)
    · obtain ⟨h', h2⟩ := hv9 k hk
      rcases h' with h' | h'
      · exact old (.inr (.inl h'))
      · exact ⟨.inr (by omega), by omega, by omega, by simp; omega⟩
    · exact old (.inr (.inr hk))
  · rcases (hv9 q h1).1 with h' | h'
    · exact h.apart.2.2 q h' h2
    · have := (h.its q (.inr (.inr h2))).2.2.2
      omega
theorem Rk.putS {w wx w2 : World} {mb base b : Nat} {vl vs vl' vs' v9 : Value} {M : Nat} {LL LS : List Rq} {arr : Array Value} (h : Rk w wx mb base b vl vs vl' vs' M LL LS arr) {o : Obj} (x : Rq)
    (hown : w2.ownsRow base 22 1 v9 (LS.length + 1) (sinces LS ++ [.int .u64 (x.since : Int)])) (hgrow : ((wx.alloc o).drew).grownBy w2 vs'.ownBlock) (hat : v9.ownBlock = vs'.ownBlock ∨ v9.ownBlock = some ((wx.alloc o).drew).heap.size) :
    Blk w2 mb #[vl', vs', .int .u64 (M : Int)] 41 ∧ Rk w (w2.setCell ⟨mb, 1, none⟩ v9) mb base b vl vs vl' v9 M LL (LS ++ [x]) arr := by
  obtain ⟨hb, hbut, hsz⟩ := h.grow (r := vs'.ownBlock) (fun q hq => ⟨.inr (.inr hq), fun e => h.apart.2.1 (by rw [← e]; exact hq)⟩) hgrow
  obtain ⟨s1, s2, s3, s4⟩ := h.size
  have k1 : Blk w2 mb #[vl', vs', .int .u64 (M : Int)] 41 := (hb mb h.blk.lt h.apart.2.1).trans h.blk
  have k2 : Blk w2 b arr 45 := (hb b h.one.lt (fun e => (h.its b (.inr (.inr e))).2.1 rfl)).trans h.one
  have k3 : Blk w2 (b + 1) zero6 45 := (hb (b + 1) h.two.lt (fun e => (h.its _ (.inr (.inr e))).2.2.1 rfl)).trans h.two
  have hv9 : ∀ q, v9.ownBlock = some q → (vs'.ownBlock = some q ∨ wx.heap.size < q) ∧ q < w2.heap.size := fun q hq => by
    refine ⟨?_, (hown.lt q hq).2⟩
    rcases hat with e | e
    · exact .inl (e ▸ hq)
    · rw [e] at hq
      have hq : (wx.alloc o).heap.size = q := Option.some.inj hq
      simp at hq
      exact .inr (by omega)
  have hT : w2.ownsRow base 45 6 vl' LL.length (flatE enc6 LL) := by
    refine ⟨h.rows.1, ?_⟩
    rcases h.rows.2 with h0 | ⟨g, cap, cur, rfl, hB, hg, r⟩
    · exact .inl h0
    · exact .inr ⟨g, cap, cur, rfl, hB, (hb g (Array.getElem?_eq_some_iff.1 hg).1 (fun e => h.apart.2.2 g rfl e)).trans hg, r⟩
  have hl1 := h.blk.lt
  have a1 : v9.ownBlock ≠ some mb := fun e => by
    rcases (hv9 mb e).1 with h' | h'
    · exact h.apart.2.1 h'
    · omega
  have gs := grown_set w2 mb 1 v9
  have hlen : (LS ++ [x]).length = LS.length + 1 := by rw [List.length_append]; rfl
  refine ⟨k1, k1.set 1 _, hT.kept gs (.inr h.apart.1), ?_, hbut.set mb 1 _ (.inl (.inl rfl)), k2.other _ (by show b ≠ mb; omega) _, k3.other _ (by show b + 1 ≠ mb; omega) _, fun k hk => ?_, ⟨h.apart.1, a1, fun q h1 h2 => ?_⟩, s1, s2, s3, by simp; omega⟩
  · rw [hlen, show sinces (LS ++ [x]) = sinces LS ++ [.int .u64 (x.since : Int)] by unfold sinces; rw [List.map_append]; rfl]; exact hown.kept gs (.inr a1)
  · have old : Its mb vl' vs' k → (Its mb vl vs k ∨ w.heap.size ≤ k) ∧ k ≠ b ∧ k ≠ b + 1 ∧ k < (w2.setCell ⟨mb, 1, none⟩ v9).heap.size := fun h' => by
      obtain ⟨o1, o2, o3, o4⟩ := h.its k h'
      exact ⟨o1, o2, o3, by simp; omega⟩
    rcases hk with hk | hk | hk
    · exact old (.inl hk)
    · exact old (.inr (.inl hk))
    · obtain ⟨h', h2⟩ := hv9 k hk
      rcases h' with h' | h'
      · exact old (.inr (.inr h'))
      · exact ⟨.inr (by omega), by omega, by omega, by simp; omega⟩
  · rcases (hv9 q h2).1 with h' | h'
    · exact h.apart.2.2 q h1 h'
    · have := (h.its q (.inr (.inl h1))).2.2.2
      omega

set_option maxRecDepth 100000 in
set_option maxHeartbeats 2000000 in
theorem rask_any (x : Rq) (now : Nat) (mb base : Nat) (vl vs : Value) (N : Nat) (L : List Rq) (w : World) (hB : Rb w mb base vl vs N L) (hN : N < 1000000) (hn : L.length ≤ 100000) :
    Calls Tryd.prog 21 #[.pointer (some ⟨mb, 0, none⟩), .agg (arr6 x), .int .u64 (now : Int)] w fun e w' => e = .returned (.agg (arr6 (asked x (N + 1) now))) ∧ RLeft w mb base vl vs (N + 1) (L ++ [asked x (N + 1) now]) w' := by
  obtain ⟨i6, hi6, hz6, hs6, hy6⟩ := info_of info6
  obtain ⟨i1, hi1, hz1, hs1, hy1⟩ := info_of info1
  have c2 := hB.blk.get 2
  have f2 := hB.blk.frz 2
  simp only [List.getElem?_toArray, List.getElem?_cons_zero, List.getElem?_cons_succ] at c2
  have lm := hB.blk.lt
  obtain ⟨M, hM⟩ : ∃ M, M = N + 1 := ⟨_, rfl⟩
  rw [← hM]
  have hw : IntKind.u64.wrap ((N : Int) + 1) = (M : Int) := by rw [IntWalk.u64_in _ (by omega)]; omega
  have HB : Aside (Rb w mb base vl vs N L) := hB
  clear hM hB hN
  obtain ⟨i, a, p, k, t, u, s⟩ := x
  simp only [asked]
  have A1 : Aside (Rk w (((w.setCell ⟨mb, 2, none⟩ (.int .u64 (M : Int))).alloc (.cells #[.int .u64 (M : Int), .string a, .bool p, .int .i64 k, .string t, .string u] 45)).alloc (.cells zero6 45)) mb base w.heap.size vl vs vl vs M L L #[.int .u64 (M : Int), .string a, .bool p, .int .i64 k, .string t, .string u]) := Rk.new HB.out M _
  go_enter Tryd.func21, Tryd.ntmps21
  go_upto_region 3 with fail
  generalize ((w.setCell ⟨mb, 2, none⟩ (.int .u64 (M : Int))).alloc (.cells #[.int .u64 (M : Int), .string a, .bool p, .int .i64 k, .string t, .string u] 45)).alloc (.cells zero6 45) = W1 at *
  have c0 := A1.out.blk.get 0
  have e0 := A1.out.one.get 0
  have e1 := A1.out.one.get 1
  have e2 := A1.out.one.get 2
  have e3 := A1.out.one.get 3
  have e4 := A1.out.one.get 4
  have e5 := A1.out.one.get 5
  simp only [List.getElem?_toArray, List.getElem?_cons_zero, List.getElem?_cons_succ] at c0 e0 e1 e2 e3 e4 e5
  have l1 := A1.out.blk.lt
  have l2 := A1.out.one.lt
  have O1 : Aside (((W1.alloc (.cells #[.int .u64 (M : Int), .string a, .bool p, .int .i64 k, .string t, .string u] 45)).drew).ownsRow base 45 6 vl L.length (flatE enc6 L)) := A1.out.rows.alloc _
  have NW : Aside (∀ j v, ([.int .u64 (M : Int), .string a, .bool p, .int .i64 k, .string t, .string u] : List Value)[j]? = some v → ((W1.alloc (.cells #[.int .u64 (M : Int), .string a, .bool p, .int .i64 k, .string t, .string u] 45)).drew).cell? ((⟨W1.heap.size, 0, none⟩ : Addr).add j) = some v) := news_at W1 [.int .u64 (M : Int), .string a, .bool p, .int .i64 k, .string t, .string u] _
  have hbs : base ≤ W1.heap.size := by have := A1.out.size.2.1; omega
  clear c2 f2 hw
  go_cut [] (fun wx => ∃ v9, Rk w wx mb base w.heap.size vl vs v9 vs M (L ++ [(⟨M, a, p, k, t, u, now⟩ : Rq)]) L #[.int .u64 (M : Int), .string a, .bool p, .int .i64 k, .string t, .string u])
  case first =>
    go_region_law (first
      | (refine step_own (by rfl) _ _ 38 (by rfl) base 45 i6 _ 6 72 Tryd.underlying38 hi6 hz6 hs6 hy6 (by rfl) (by decide) vl L.length (flatE enc6 L) (by rfl) O1.out ⟨W1.heap.size, 0, none⟩ 1 1 [.int .u64 (M : Int), .string a, .bool p, .int .i64 k, .string t, .string u] (by rfl) (by rfl) NW.out (by simp [Value.oneCell']) (by unfold maxLen; omega) (by omega) (by show base ≤ (W1.alloc (.cells #[.int .u64 (M : Int), .string a, .bool p, .int .i64 k, .string t, .string u] 45)).heap.size; simp; omega) ?_; intro v9 w4 hown hgrow hat; obtain ⟨k5, K6⟩ := A1.out.putL ⟨M, a, p, k, t, u, now⟩ hown hgrow hat; obtain ⟨va, vc, hv, -⟩ := own_form hown; subst hv; have c5 := k5.get 0; have f5 := k5.frz 0; simp only [List.getElem?_toArray, List.getElem?_cons_zero, List.getElem?_cons_succ] at c5; have K5 := Lib.hid K6; clear hown hgrow hat K6 k5))
    all_goals
      go_wp2_with fail
      go_meet
      exact ⟨_, K5.out⟩
  case rest =>
    obtain ⟨v9, hA⟩ := hcut
    have A2 := Lib.hid hA
    clear hA c0 e0 e1 e2 e3 e4 e5 O1 NW hbs l1 l2
    have c1 := A2.out.blk.get 1
    simp only [List.getElem?_toArray, List.getElem?_cons_zero, List.getElem?_cons_succ] at c1
    have l1 := A2.out.blk.lt
    have O2 : Aside ((wc.alloc (.cells #[.int .u64 (now : Int)] 22)).ownsRow base 22 1 vs L.length (sinces L)) := A2.out.ticks.alloc _
    have NW : Aside (∀ j v, ([.int .u64 (now : Int)] : List Value)[j]? = some v → (wc.alloc (.cells #[.int .u64 (now : Int)] 22)).cell? ((⟨wc.heap.size, 0, none⟩ : Addr).add j) = some v) := news_at wc [.int .u64 (now : Int)] _
    have hbs : base ≤ wc.heap.size := by have := A2.out.size.2.1; omega
    go_upto_region 4 with fail
    go_cut [] (fun wx => ∃ v8, Rk w wx mb base w.heap.size vl vs v9 v8 M (L ++ [(⟨M, a, p, k, t, u, now⟩ : Rq)]) (L ++ [(⟨M, a, p, k, t, u, now⟩ : Rq)]) #[.int .u64 (M : Int), .string a, .bool p, .int .i64 k, .string t, .string u])
    case first =>
      go_wp2_with (at_builtin; refine wpList_append_own_at _ rfl _ _ 39 rfl base 22 i1 _ 1 8 Tryd.underlying39 hi1 hz1 hs1 hy1 rfl (by decide) vs L.length (sinces L) rfl O2.out ⟨wc.heap.size, 0, none⟩ 1 1 [.int .u64 (now : Int)] rfl rfl NW.out (by simp [Value.oneCell']) (by unfold maxLen; omega) (by omega) (by simp; omega) ?_; intro v8 w4 hown hgrow _ hat; obtain ⟨k5, K6⟩ := A2.out.putS (o := .cells #[.int .u64 (now : Int)] 22) ⟨M, a, p, k, t, u, now⟩ hown ⟨hgrow.os, hgrow.tape, hgrow.output, hgrow.size, hgrow.block⟩ hat; obtain ⟨va, vc, hv, -⟩ := own_form hown; subst hv; have c5 := k5.get 1; have f5 := k5.frz 1; simp only [List.getElem?_toArray, List.getElem?_cons_zero, List.getElem?_cons_succ] at c5; have K5 := Lib.hid K6; clear hown hgrow hat K6 k5)
      go_meet
      exact ⟨_, K5.out⟩
    case rest =>
      obtain ⟨v8, hA⟩ := hcut
      have A3 := Lib.hid hA
      clear c1 O2 NW hbs l1
      have e0 := hA.one.get 0
      have e1 := hA.one.get 1
      have e2 := hA.one.get 2
      have e3 := hA.one.get 3
      have e4 := hA.one.get 4
      have e5 := hA.one.get 5
      have d0 := hA.two.get 0
      have d1 := hA.two.get 1
      have d2 := hA.two.get 2
      have d3 := hA.two.get 3
      have d4 := hA.two.get 4
      have d5 := hA.two.get 5
      have g0 := hA.two.frz 0
      have g1 := hA.two.frz 1
      have g2 := hA.two.frz 2
      have g3 := hA.two.frz 3
      have g4 := hA.two.frz 4
      have g5 := hA.two.frz 5
      simp only [List.getElem?_toArray, List.getElem?_cons_zero, List.getElem?_cons_succ] at e0 e1 e2 e3 e4 e5 d0 d1 d2 d3 d4 d5
      clear hA
      go_wp2_with fail
      refine bodyPost_ret (v := .agg #[.int .u64 (M : Int), .string a, .bool p, .int .i64 k, .string t, .string u]) (by simp [results, Tryd.results21, go_sem, d0, d1, d2, d3, d4, d5]) rfl ⟨rfl, v9, v8, ?_, ?_, ?_⟩
      · have hb : Rb _ mb base v9 v8 M (L ++ [(⟨M, a, p, k, t, u, now⟩ : Rq)]) := ⟨A3.out.blk, A3.out.size.2.1, A3.out.rows, A3.out.ticks, A3.out.apart⟩
        exact hb.six _ (fun j hj => (A3.out.its j hj).2.2.1) _ _ _ _ _ _
      · exact A3.out.but.six _ (by omega) _ _ _ _ _ _
      · exact fun j hj => (A3.out.its j hj).1
end Go.Proofs.YtelofhplpeeplaaDoor.wire
