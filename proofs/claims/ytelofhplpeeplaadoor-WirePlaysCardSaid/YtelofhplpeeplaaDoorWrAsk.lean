/- Book.Ask: a request is put in, behind the others. -/
import Derived.Test.YtelofhplpeeplaaDoorWrUrl
import Derived.Deep.AppendLies
import Derived.Deep.RegionLaw
import Derived.Deep.DeepCutAuto
import Derived.IntWalk
set_option linter.unusedSimpArgs false
set_option linter.unusedVariables false
namespace Go.Proofs.YtelofhplpeeplaaDoor.wire
open Go.RowKit Go.Proofs.YtelofhplpeeplaaDoor.errs

/-- A request as it waits, and as it is answered. -/
def asked (x : Rq) (n t : Nat) : Rq := ⟨n, x.app, x.apple, x.kind, x.text, x.url, t⟩

/-- What stands within a call of Ask: the book's cells, its row, the call's two blocks. -/
structure AskAt (w wx : World) (bb base b : Nat) (v v' : Value) (M n : Nat) (xs : List Value) (arr : Array Value) : Prop where
  blk : Blk wx bb #[.int .u64 (M : Int), v'] 74
  row : wx.ownsRow base 77 7 v' n xs
  far : Far bb v.ownBlock w wx
  one : Blk wx b arr 45
  two : Blk wx (b + 1) zero6 45
  same : v'.ownBlock = v.ownBlock ∨ ∀ q, v'.ownBlock = some q → w.heap.size ≤ q
  apart : v'.ownBlock ≠ some bb
  free : ∀ q, v'.ownBlock = some q → q ≠ b ∧ q ≠ b + 1
  size : w.heap.size = b ∧ base ≤ bb ∧ bb < b ∧ base ≤ wx.heap.size
theorem AskAt.on {w wx w2 : World} {bb base b : Nat} {v v' : Value} {M n : Nat} {xs : List Value} {arr : Array Value} (h : AskAt w wx bb base b v v' M n xs arr) {B : Nat} (hb : Below B wx w2) (hB : wx.heap.size ≤ B) : AskAt w w2 bb base b v v' M n xs arr :=
  ⟨h.blk.below hb (Nat.lt_of_lt_of_le h.blk.lt hB), h.row.kept (row := none) ⟨hb.os, hb.tape, hb.output, hb.size, fun k hk _ => hb.block k (Nat.lt_of_lt_of_le hk hB)⟩ (by cases v'.ownBlock <;> simp), h.far.trans (far_below hb hB), h.one.below hb (Nat.lt_of_lt_of_le h.one.lt hB), h.two.below hb (Nat.lt_of_lt_of_le h.two.lt hB), h.same, h.apart, h.free, h.size.1, h.size.2.1, h.size.2.2.1, Nat.le_trans h.size.2.2.2 hb.size⟩
theorem AskAt.new {w : World} {bb base N : Nat} {v : Value} {L : List Rq} (hB : Bk w bb base v N L) (M : Nat) (arr : Array Value) :
    AskAt w (((w.setCell ⟨bb, 0, none⟩ (.int .u64 (M : Int))).alloc (.cells arr 45)).alloc (.cells zero6 45)) bb base w.heap.size v v M L.length (flatE enc7 L) arr := by
  have hl := hB.blk.lt
  have e1 : (w.setCell ⟨bb, 0, none⟩ (.int .u64 (M : Int))).heap.size = w.heap.size := by simp
  have e2 : ((w.setCell ⟨bb, 0, none⟩ (.int .u64 (M : Int))).alloc (.cells arr 45)).heap.size = w.heap.size + 1 := by simp
  have b1 := blk_new (w.setCell ⟨bb, 0, none⟩ (.int .u64 (M : Int))) arr 45
  have b2 := blk_new ((w.setCell ⟨bb, 0, none⟩ (.int .u64 (M : Int))).alloc (.cells arr 45)) zero6 45
  rw [e1] at b1
  rw [e2] at b2
  have hbase := hB.above
  refine ⟨((hB.blk.set 0 _).alloc _).alloc _, ((hB.row.kept (grown_set _ _ _ _) (by cases hv : v.ownBlock with | none => exact .inl rfl | some q => exact .inr (by rw [← hv]; exact hB.apart))).alloc _).alloc _, (((Far.refl bb _ w).set 0 _).alloc _).alloc _, b1.alloc _, b2, .inl rfl, hB.apart, fun q hq => ?_, rfl, hB.above, hl, ?_⟩
  · have := (hB.row.lt q hq).2
    omega
  · simp; omega
theorem AskAt.put {w wx w2 : World} {bb base b : Nat} {v v' : Value} {M : Nat} {L : List Rq} {arr : Array Value} (h : AskAt w wx bb base b v v' M L.length (flatE enc7 L) arr) {o : Obj} {g cap : Nat} {news : List Value}
    (hown : w2.ownsRow base 77 7 (.slice (some ⟨g, 0, none⟩) (L.length + 1) cap) (L.length + 1) (flatE enc7 L ++ news)) (hgrow : (wx.alloc o).grownBy w2 v'.ownBlock) (hat : v'.ownBlock = some g ∨ g = wx.heap.size + 1) :
    Blk w2 bb #[.int .u64 (M : Int), v'] 74 ∧ AskAt w (w2.setCell ⟨bb, 1, none⟩ (.slice (some ⟨g, 0, none⟩) (L.length + 1) cap)) bb base b v (.slice (some ⟨g, 0, none⟩) (L.length + 1) cap) M (L.length + 1) (flatE enc7 L ++ news) arr := by
  have s1 := h.size.1
  have s2 := h.size.2.2.1
  have s3 := h.far.size
  have hb : ∀ k, k < wx.heap.size → v'.ownBlock ≠ some k → w2.heap[k]? = wx.heap[k]? := fun k hk hn => by
    rw [hgrow.block k (by simp; omega) (fun e => hn e.symm)]
    exact heap_alloc_old wx o hk
  have k1 : Blk w2 bb #[.int .u64 (M : Int), v'] 74 := (hb bb h.blk.lt h.apart).trans h.blk
  have k2 : Blk w2 b arr 45 := (hb b h.one.lt (fun e => (h.free b e).1 rfl)).trans h.one
  have k3 : Blk w2 (b + 1) zero6 45 := (hb (b + 1) h.two.lt (fun e => (h.free (b + 1) e).2 rfl)).trans h.two
  have l1 := h.one.lt
  have l2 := h.two.lt
  have hg : g ≠ bb ∧ g ≠ b ∧ g ≠ b + 1 := by
    rcases hat with e | e
    · exact ⟨fun q => h.apart (by rw [e, q]), (h.free g e).1, (h.free g e).2⟩
    · omega
  have hr : w2.grownBy (w2.setCell ⟨bb, 1, none⟩ (.slice (some ⟨g, 0, none⟩) (L.length + 1) cap)) (some bb) := grown_set _ _ _ _
  refine ⟨k1, k1.set 1 _, hown.kept hr (.inr (by show some g ≠ some bb; exact fun e => hg.1 (Option.some.inj e))), Far.set ((h.far.alloc o).grown hgrow h.same) 1 _, k2.other _ (by show b ≠ bb; omega) _, k3.other _ (by show b + 1 ≠ bb; omega) _, ?_, fun e => hg.1 (Option.some.inj e), fun q hq => by have hq : g = q := Option.some.inj hq; subst hq; exact hg.2, s1, h.size.2.1, s2, ?_⟩
  · rcases hat with e | e
    · rcases h.same with e2 | e2
      · exact .inl (by rw [← e2, e]; rfl)
      · exact .inr (fun q hq => by have hq : g = q := Option.some.inj hq; subst hq; exact e2 _ e)
    · exact .inr (fun q hq => by have hq : g = q := Option.some.inj hq; subst hq; omega)
  · have := h.size.2.2.2
    have := hgrow.size
    simp at this ⊢
    omega

/-- A book, what a call leaves alone, and a block of the call's own. -/
def Pack (w wx : World) (bb base : Nat) (v v' : Value) (M : Nat) (L : List Rq) (c : Nat) : Prop :=
  Bk wx bb base v' M L ∧ Far bb v.ownBlock w wx ∧ c ≠ bb ∧ v'.ownBlock ≠ some c ∧ w.heap.size ≤ c
theorem Pack.set {w wx : World} {bb base : Nat} {v v' : Value} {M : Nat} {L : List Rq} {c : Nat} (h : Pack w wx bb base v v' M L c) (i : Nat) (u : Value) : Pack w (wx.setCell ⟨c, i, none⟩ u) bb base v v' M L c :=
  ⟨⟨h.1.blk.other _ (fun e => h.2.2.1 e.symm) u, h.1.above, h.1.row.kept (grown_set wx c i u) (by cases hv : v'.ownBlock with | none => exact .inl rfl | some q => exact .inr (by rw [← hv]; exact h.2.2.2.1)), h.1.apart⟩, h.2.1.setNew _ h.2.2.2.2 u, h.2.2⟩
theorem AskAt.pack {w wx : World} {bb base b : Nat} {v v' : Value} {M : Nat} {L : List Rq} {x : Rq} {arr : Array Value} (h : AskAt w wx bb base b v v' M (L.length + 1) (flatE enc7 L ++ enc7 x) arr) : Pack w wx bb base v v' M (L ++ [x]) (b + 1) := by
  have s1 := h.size.1
  have s2 := h.size.2.2.1
  refine ⟨⟨h.blk, h.size.2.1, ?_, h.apart⟩, h.far, by omega, fun e => (h.free _ e).2 rfl, by omega⟩
  rw [flatE_append, flatE_one, List.length_append]
  exact h.row

set_option maxRecDepth 100000 in
set_option maxHeartbeats 2000000 in
theorem ask_any (x : Rq) (h1 : x.app.size ≤ 281474976710656) (h2 : x.text.size ≤ 281474976710656) (h3 : x.url.size ≤ 281474976710656) (now : Nat) (bb base : Nat) (v : Value) (N : Nat) (L : List Rq) (w : World) (hB : Bk w bb base v N L) (hN : N < 1000000) (hn : L.length ≤ 100000) :
    Calls Tryd.prog 20 #[.pointer (some ⟨bb, 0, none⟩), .agg (arr6 x), .int .u64 (now : Int)] w fun e w' => e = .returned (.agg (arr6 (asked x (N + 1) now))) ∧ ∃ v', Bk w' bb base v' (N + 1) (L ++ [asked x (N + 1) now]) ∧ Far bb v.ownBlock w w' ∧ (v'.ownBlock = v.ownBlock ∨ ∀ q, v'.ownBlock = some q → w.heap.size ≤ q) := by
  obtain ⟨i7, hi7, hz7, hs7, hy7⟩ := info_of info7
  have CP := fun w => copied_any (asked x (N + 1) now) h1 h2 h3 w
  have c0 := hB.blk.get 0
  have c1 := hB.blk.get 1
  have f0 := hB.blk.frz 0
  have f1 := hB.blk.frz 1
  simp only [List.getElem?_toArray, List.getElem?_cons_zero, List.getElem?_cons_succ] at c0 c1
  have hbl : bb < w.heap.size := hB.blk.lt
  have hne : bb ≠ w.heap.size := by omega
  obtain ⟨M, hM⟩ : ∃ M, M = N + 1 := ⟨_, rfl⟩
  rw [← hM] at CP ⊢
  have hw : IntKind.u64.wrap ((N : Int) + 1) = (M : Int) := by rw [IntWalk.u64_in _ (by omega)]; omega
  have HM := Lib.hid hM
  have HB : Aside (Bk w bb base v N L) := hB
  clear hM hB hN
  obtain ⟨i, a, p, k, t, u, s⟩ := x
  simp only [asked] at CP ⊢
  clear h1 h2 h3
  go_enter Tryd.func20, Tryd.ntmps20
  go_upto_region 3 with fail
  have A1 : Aside (AskAt w (((w.setCell ⟨bb, 0, none⟩ (.int .u64 (M : Int))).alloc (.cells #[.int .u64 (M : Int), .string a, .bool p, .int .i64 k, .string t, .string u] 45)).alloc (.cells zero6 45)) bb base w.heap.size v v M L.length (flatE enc7 L) #[.int .u64 (M : Int), .string a, .bool p, .int .i64 k, .string t, .string u]) := AskAt.new HB.out M _
  generalize ((w.setCell ⟨bb, 0, none⟩ (.int .u64 (M : Int))).alloc (.cells #[.int .u64 (M : Int), .string a, .bool p, .int .i64 k, .string t, .string u] 45)).alloc (.cells zero6 45) = W1 at *
  obtain ⟨b, hb0⟩ : ∃ b, w.heap.size = b := ⟨_, rfl⟩
  rw [hb0] at A1
  simp only [hb0]
  clear c0 c1 f0 f1 hw hbl hne
  have c1 := A1.out.blk.get 1
  have e0 := A1.out.one.get 0
  have e1 := A1.out.one.get 1
  have e2 := A1.out.one.get 2
  have e3 := A1.out.one.get 3
  have e4 := A1.out.one.get 4
  have e5 := A1.out.one.get 5
  simp only [List.getElem?_toArray, List.getElem?_cons_zero, List.getElem?_cons_succ] at c1 e0 e1 e2 e3 e4 e5
  obtain ⟨n, hnn⟩ : ∃ n, Hid (L.length = n) := ⟨_, rfl⟩
  go_cut [] (fun wx => ∃ v', AskAt w wx bb base b v v' M (L.length + 1) (flatE enc7 L ++ [.int .u64 (M : Int), .string a, .bool p, .int .i64 k, .string t, .string u, .int .u64 (now : Int)]) #[.int .u64 (M : Int), .string a, .bool p, .int .i64 k, .string t, .string u])
  case first =>
    go_region_law (first
      | (refine step_append_lies _ (by rfl) _ _ 72 (by rfl) base 77 i7 _ 7 80 Tryd.underlying72 hi7 hz7 hs7 hy7 (by rfl) (by decide) v L.length (flatE enc7 L) (by rfl) (K4.out.row.alloc _) ⟨w4.heap.size, 0, none⟩ 1 1 [.int .u64 (M : Int), .string a, .bool p, .int .i64 k, .string t, .string u, .int .u64 (now : Int)] (by rfl) (by rfl) (World.news_of_block (cs := #[.int .u64 (M : Int), .string a, .bool p, .int .i64 k, .string t, .string u, .int .u64 (now : Int)]) (t := 77) (fr := (0, 0)) (heap_alloc_new w4 _)) (by simp [Value.oneCell']) (by decide) (by unfold maxLen; omega) (by omega) (by have := K4.out.size.2.2.2; simp; omega) (w4.heap.size + 1) (by simp) ?_; intro g1 cap1 w5 hown hgrow hat hl1; obtain ⟨k5, K6⟩ := K4.out.put hown hgrow hat; have c5 := k5.get 1; have f5 := k5.frz 1; simp only [List.getElem?_toArray, List.getElem?_cons_zero, List.getElem?_cons_succ] at c5; have K5 := Lib.hid K6; clear hown hgrow hat hl1 K6 k5)
      | (go_simp; go_at_call 36; refine (CP _).mono ?_; rintro e w4 ⟨rfl, hb⟩; have K4 : Aside (AskAt w w4 bb base b v v M L.length (flatE enc7 L) #[.int .u64 (M : Int), .string a, .bool p, .int .i64 k, .string t, .string u]) := (A1.out.on (Below.refl _ _).drew (Nat.le_refl _)).on hb (Nat.le_refl _); have l4 := K4.out.blk.lt; have c4 := K4.out.blk.get 1; simp only [List.getElem?_toArray, List.getElem?_cons_zero, List.getElem?_cons_succ] at c4; clear hb))
    all_goals
      go_wp2_with fail
      go_meet
      exact ⟨_, K5.out⟩
  case rest =>
    obtain ⟨v', hA⟩ := hcut
    have HA := Lib.hid hA
    clear hA c1 e0 e1 e2 e3 e4 e5
    have e0 := HA.out.one.get 0
    have e1 := HA.out.one.get 1
    have e2 := HA.out.one.get 2
    have e3 := HA.out.one.get 3
    have e4 := HA.out.one.get 4
    have e5 := HA.out.one.get 5
    simp only [List.getElem?_toArray, List.getElem?_cons_zero, List.getElem?_cons_succ] at e0 e1 e2 e3 e4 e5
    go_wp2_with fail
    refine (CP _).mono ?_; rintro e w6 ⟨rfl, hb⟩
    have A6 := HA.out.on hb (Nat.le_refl _)
    have d0 := A6.two.get 0
    have d1 := A6.two.get 1
    have d2 := A6.two.get 2
    have d3 := A6.two.get 3
    have d4 := A6.two.get 4
    have d5 := A6.two.get 5
    have g0 := A6.two.frz 0
    have g1 := A6.two.frz 1
    have g2 := A6.two.frz 2
    have g3 := A6.two.frz 3
    have g4 := A6.two.frz 4
    have g5 := A6.two.frz 5
    simp only [List.getElem?_toArray, List.getElem?_cons_zero, List.getElem?_cons_succ] at d0 d1 d2 d3 d4 d5
    have P6 : Hid (Pack w w6 bb base v v' M (L ++ [(⟨M, a, p, k, t, u, now⟩ : Rq)]) (b + 1) ∧ (v'.ownBlock = v.ownBlock ∨ ∀ q, v'.ownBlock = some q → w.heap.size ≤ q)) := ⟨A6.pack (x := ⟨M, a, p, k, t, u, now⟩), A6.same⟩
    clear hb A6 HA A1 HB CP e0 e1 e2 e3 e4 e5
    go_wp2_with fail
    refine bodyPost_ret (v := .agg #[.int .u64 (M : Int), .string a, .bool p, .int .i64 k, .string t, .string u]) (by simp [results, Tryd.results20, go_sem, d0, d1, d2, d3, d4, d5]) rfl ⟨rfl, ?_⟩
    have P7 := (((((P6.out.1.set 0 (.int .u64 (M : Int))).set 1 (.string a)).set 2 (.bool p)).set 3 (.int .i64 k)).set 4 (.string t)).set 5 (.string u)
    exact ⟨v', P7.1, P7.2.1, P6.out.2⟩
end Go.Proofs.YtelofhplpeeplaaDoor.wire
