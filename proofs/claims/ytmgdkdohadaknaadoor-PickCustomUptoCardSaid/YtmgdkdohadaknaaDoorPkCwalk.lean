/- The walk of the law on other URLs and on words: it returns true, and what was there stays. -/
import Derived.Test.YtmgdkdohadaknaaDoorPkSpeaks
import Derived.Test.YtmgdkdohadaknaaDoorPkRwords
import Derived.Test.YtmgdkdohadaknaaDoorPkRef
import Derived.Test.YtmgdkdohadaknaaDoorPkSame
import Derived.Deep.RegionWith
import Derived.Deep.DeepCutAuto
set_option linter.unusedSimpArgs false
set_option linter.unusedVariables false
namespace Go.Proofs.YtmgdkdohadaknaaDoor.pickCustom
open Go.RowKit Go.Proofs.YtmgdkdohadaknaaDoor.errs Go.Proofs.YtmgdkdohadaknaaDoor.wire Go.Proofs.YtmgdkdohadaknaaDoor.pick

theorem own_set {w : World} {B g : Nat} {v : Value} {l : List ByteArray} (h : OwnS w B v l) (hg : g < B) (i : Nat) (u : Value) : OwnS (w.setCell ⟨g, i, none⟩ u) B v l :=
  World.ownsRow.kept h (grown_set w g i u) (by
    cases hv : v.ownBlock with
    | none => exact .inl rfl
    | some q => exact .inr (fun e => by have := (World.ownsRow.lt h q hv).1; have := Option.some.inj e; omega))

set_option maxRecDepth 100000 in
set_option maxHeartbeats 4000000 in
theorem law (a : Option Addr) (len cap : Nat) (l : List ByteArray) (ad : Option Addr) (n c : Nat) (x : An) (W : World) (hI : (a = none → cap = 0) ∧ StrsIn W (.slice a len cap) l) (hS : ∀ s ∈ l, s.size ≤ 281474976710656)
    (hA : StrsIn W (.slice ad n c) x.apps) (hx : (wordsL x).length ≤ 140737488355328) (hT : Tabs W) :
    Calls Tryd.prog 4 #[.slice a len cap, .agg #[.int .i64 x.kind, .slice ad n c, .int .i64 x.why]] W fun e w' => e = .returned (.bool true) ∧ Below W.heap.size W w' := by
  have HN := Lib.hid hI.1
  have hln : len = l.length := (hI.2.at).1
  have HLN := Lib.hid hln
  have HI := Lib.hid hI.2
  have HS := Lib.hid hS
  have HX := Lib.hid hx
  obtain ⟨i1, hi1, hz1, hs1, hy1⟩ := info_of infoText
  obtain ⟨W1, hW1⟩ : ∃ W1, W.alloc (.cells #[.int .i64 x.kind, .slice ad n c, .int .i64 x.why] 29) = W1 := ⟨_, rfl⟩
  have b1 : Below W.heap.size W W1 := by rw [← hW1]; exact (Below.refl _ W).alloc (Nat.le_refl _) _
  have k1 : Blk W1 W.heap.size #[.int .i64 x.kind, .slice ad n c, .int .i64 x.why] 29 := by rw [← hW1]; exact blk_new W _ _
  have H1 := Lib.hid (And.intro b1 (And.intro k1 (And.intro (hA.below b1) (hT.below b1))))
  have HW1 := Lib.hid hW1
  have SP := speaks_any W1 (hT.below b1)
  clear hI hS hT hln hA hx hW1 b1 k1
  go_enter Tryd.func4, Tryd.ntmps4
  go_wp2_with fail
  rw [HW1.out]
  clear HW1
  refine SP.mono ?_; rintro e w1 ⟨rfl, hb1⟩
  have k1 := H1.out.2.1.below hb1 H1.out.2.1.lt
  have d1 := k1.get 1
  simp only [List.getElem?_toArray, List.getElem?_cons_zero, List.getElem?_cons_succ] at d1
  have H2 := Lib.hid (And.intro (H1.out.1.trans (hb1.mono H1.out.1.size)) (And.intro k1 (And.intro (H1.out.2.2.1.below hb1) (H1.out.2.2.2.below hb1))))
  clear hb1 SP H1 k1
  by_cases h2 : len ≤ 200
  · have y0 : ¬ (200 : Int) < (len : Int) := by omega
    by_cases h3 : n ≤ 200
    · have y1 : ¬ (200 : Int) < (n : Int) := by omega
      go_upto_region 5 with fail
      clear d1
      have OE : OwnS (w1.alloc (.cells #[] 9)) w1.heap.size (.slice (some ⟨w1.heap.size, 0, none⟩) 0 0) [] := World.ownsRow_lit w1 #[] 0 (Nat.le_refl _) (by unfold maxLen; omega) rfl
      have BE : Below w1.heap.size w1 (w1.alloc (.cells #[] 9)) := (Below.refl _ _).alloc (Nat.le_refl _) _
      have HZ : Hid (w1.heap.size ≤ (w1.alloc (.cells #[] 9)).heap.size) := BE.size
      have HE := Lib.hid (And.intro OE (And.intro BE ((HI.out.below H2.out.1).below BE)))
      clear OE BE
      go_wp2_with (at_builtin; refine append_strs hi1 hz1 hs1 hy1 HE.out.1 a len cap HE.out.2.2 HN.out (Nat.zero_le _) (by rw [← HLN.out]; omega) HZ.out rfl _ _ rfl rfl rfl ?_)
      intro v4 w4 hO4 hb4 _
      have b4 := HE.out.2.1.trans hb4
      have C := custom_own l HS.out (by rw [← HLN.out]; omega) v4 w4 hO4.reads
      obtain ⟨va, vc, rfl⟩ := hO4.form
      have hO4' : OwnS w4 w1.heap.size (.slice va l.length vc) l := hO4
      have H4 := Lib.hid (And.intro hO4' b4)
      clear hO4 hO4' hb4 b4 HE HZ
      go_wp2_with fail
      refine C.mono ?_; rintro e w5 ⟨y, rfl, ⟨s1, rfl, hs1⟩, hb5⟩
      obtain ⟨sa, sc, rfl⟩ := hs1.form
      obtain ⟨X, hX⟩ : ∃ X, Hid (customA l = X) := ⟨_, rfl⟩
      rw [hX.out] at hs1 ⊢
      obtain ⟨m, hm⟩ : ∃ m, Hid (X.apps.length = m) := ⟨_, rfl⟩
      rw [hm.out] at hs1 ⊢
      have bb5 := H4.out.2.trans (hb5.mono H4.out.2.size)
      have b6 : Below w5.heap.size w5 (w5.alloc (.cells #[.int .i64 X.kind, .slice sa m sc, .int .i64 X.why] 29)) := (Below.refl _ _).alloc (Nat.le_refl _) _
      have k6 := blk_new w5 #[.int .i64 X.kind, .slice sa m sc, .int .i64 X.why] 29
      have ROW : 0 < len → ∃ g cur, va = some ⟨g, 0, none⟩ ∧ w1.heap.size ≤ g ∧ g < w4.heap.size ∧ Blk (w5.alloc (.cells #[.int .i64 X.kind, .slice sa m sc, .int .i64 X.why] 29)) g cur 9 ∧ len ≤ cur.size := fun h0 => by
        have hown : w4.ownsRow w1.heap.size 9 1 (.slice va l.length vc) l.length (strs l) := H4.out.1
        rcases hown.2 with ⟨-, h1⟩ | ⟨g, cap', cur, e, hB, hg, hn', hm', hsz, -⟩
        · rw [← HLN.out] at h1; omega
        · have ev : va = some ⟨g, 0, none⟩ := by injection e
          have hl : g < w4.heap.size := (Array.getElem?_eq_some_iff.1 hg).1
          have hk : Blk w4 g cur 9 := hg
          exact ⟨g, cur, ev, hB, hl, (hk.below hb5 hl).below b6 (Nat.lt_of_lt_of_le hl hb5.size), by rw [hsz, HLN.out]; omega⟩
      have H6 := Lib.hid (And.intro ROW (And.intro (bb5.trans (b6.mono bb5.size)) (And.intro (hs1.kept b6) (And.intro k6 hb5.size))))
      clear ROW bb5 b6 k6 hs1 hb5 C H4
      go_wp2_with fail
      generalize w5.alloc (.cells #[.int .i64 X.kind, .slice sa m sc, .int .i64 X.why] 29) = W6 at *
      generalize w5.heap.size = q6 at *
      generalize w4.heap.size = B2 at *
      rw [← HLN.out]
      go_loopg [7, 26] len (fun g t7 t26 wr => ∃ i : Nat, t26 = .int .i64 (i : Int) ∧ i ≤ len ∧ Hid (i + g = len) ∧ Hid ((0 < len → ∃ g cur, va = some ⟨g, 0, none⟩ ∧ w1.heap.size ≤ g ∧ g < B2 ∧ Blk wr g cur 9 ∧ len ≤ cur.size) ∧ Below w1.heap.size w1 wr ∧ OwnS wr B2 (.slice sa m sc) X.apps ∧ Blk wr q6 #[.int .i64 X.kind, .slice sa m sc, .int .i64 X.why] 29 ∧ B2 ≤ q6))
      case atStart => exact ⟨0, rfl, Nat.zero_le _, Nat.zero_add _, H6.out⟩
      case round =>
        clear H6
        obtain ⟨i, rfl, hi, hg, hR⟩ := hrel
        by_cases hlt : i < len
        · have z0 : (0 : Int) ≤ (i : Int) := by omega
          have z1 : (i : Int) < (len : Int) := by omega
          obtain ⟨g, cur, rfl, hgB, hgl, hgk, hgs⟩ := hR.out.1 (by omega)
          have c0 : wr.cell? ⟨g, i, none⟩ = some cur[i] := by rw [hgk.get]; exact Array.getElem?_eq_getElem (by omega)
          have f0 := hgk.frz i
          have NX : Hid ((0 < len → ∃ g' cur, (some ⟨g, 0, none⟩ : Option Addr) = some ⟨g', 0, none⟩ ∧ w1.heap.size ≤ g' ∧ g' < B2 ∧ Blk (wr.setCell ⟨g, i, none⟩ (.string ⟨#[33]⟩)) g' cur 9 ∧ len ≤ cur.size) ∧ Below w1.heap.size w1 (wr.setCell ⟨g, i, none⟩ (.string ⟨#[33]⟩)) ∧ OwnS (wr.setCell ⟨g, i, none⟩ (.string ⟨#[33]⟩)) B2 (.slice sa m sc) X.apps ∧ Blk (wr.setCell ⟨g, i, none⟩ (.string ⟨#[33]⟩)) q6 #[.int .i64 X.kind, .slice sa m sc, .int .i64 X.why] 29 ∧ B2 ≤ q6) :=
            ⟨fun _ => ⟨g, _, rfl, hgB, hgl, hgk.set i _, by rw [Array.size_setIfInBounds]; exact hgs⟩, hR.out.2.1.setCell (p := ⟨g, i, none⟩) hgB _, own_set hR.out.2.2.1 hgl i _, hR.out.2.2.2.1.other ⟨g, i, none⟩ (by have := hR.out.2.2.2.2; show q6 ≠ g; omega) _, hR.out.2.2.2.2⟩
          generalize cur[i] = old at c0
          clear hR hgB hgl hgk hgs
          go_wp2_with fail
          go_roundg (gk - 1)
          case measure => have := hg.out; omega
          case rel => exact ⟨i + 1, by go_num, by omega, by have := hg.out; show _ = _; omega, NX.out⟩
        · obtain rfl : i = len := by omega
          have z1 : ¬ (i : Int) < (i : Int) := by omega
          have B7 := H2.out.1.trans (hR.out.2.1.mono H2.out.1.size)
          have dr : Below wr.heap.size wr wr.drew := (Below.refl _ wr).drew
          have bw : Below w1.heap.size w1 wr.drew := hR.out.2.1.trans (dr.mono hR.out.2.1.size)
          have HXA : Hid (AnsV wr.drew (.agg #[.int .i64 X.kind, .slice sa m sc, .int .i64 X.why]) X) := ⟨_, rfl, hR.out.2.2.1.reads.below dr⟩
          have HXB : Hid (AnsV wr.drew (.agg #[.int .i64 x.kind, .slice ad n c, .int .i64 x.why]) x) := ⟨_, rfl, H2.out.2.2.1.below bw⟩
          have HTB := Lib.hid (H2.out.2.2.2.below bw)
          have K6 := Lib.hid (hR.out.2.2.2.1.below dr hR.out.2.2.2.1.lt)
          have K1 := Lib.hid (H2.out.2.1.below bw H2.out.2.1.lt)
          have RC := rcustom_any l _ wr.drew ((HI.out.below B7).below dr)
          rw [hX.out] at RC
          have BZ := Lib.hid (B7.trans (dr.mono B7.size))
          have WA := words_any x HX.out
          have WB := rwords_any x HX.out
          generalize wordsT x = TX at *
          have ns : (TX.toList == TX.toList) = true := beq_self_eq_true _
          have d0 := K6.out.get 0
          have d1 := K6.out.get 1
          have d2 := K6.out.get 2
          have e0 := K1.out.get 0
          have e1 := K1.out.get 1
          have e2 := K1.out.get 2
          simp only [List.getElem?_toArray, List.getElem?_cons_zero, List.getElem?_cons_succ] at d0 d1 d2 e0 e1 e2
          clear hR B7 dr bw
          have BN : Hid (Below wr.drew.heap.size wr.drew wr.drew) := Below.refl _ _
          go_wp2_with fail
          go_region_with (first
            | (go_at_call 15; refine RC.mono ?_; rintro e w8 ⟨x8, rfl, h8, hb⟩; have BN := Lib.hid hb; have A8 := Lib.hid h8; obtain ⟨s8, rfl, hs8⟩ := h8; obtain ⟨sa8, sc8, rfl⟩ := hs8.form; have r6 := K6.out.below hb K6.out.lt; have d0 := r6.get 0; have d1 := r6.get 1; have d2 := r6.get 2; simp only [List.getElem?_toArray, List.getElem?_cons_zero, List.getElem?_cons_succ] at d0 d1 d2; clear hs8 hb r6)
            | (go_at_call 12; refine (same_is X _ _ w8 (HXA.out.below BN.out) A8.out).mono ?_; rintro e w9 ⟨rfl, hb⟩; have bn := BN.out.trans (hb.mono BN.out.size); have r1 := K1.out.below bn K1.out.lt; have e0 := r1.get 0; have e1 := r1.get 1; have e2 := r1.get 2; simp only [List.getElem?_toArray, List.getElem?_cons_zero, List.getElem?_cons_succ] at e0 e1 e2; have BN := Lib.hid bn; clear hb bn r1)
            | (go_at_call 16; refine (WA _ _ (HXB.out.below BN.out) (HTB.out.below BN.out)).mono ?_; rintro e w10 ⟨rfl, hb⟩; have bn := BN.out.trans (hb.mono BN.out.size); have r1 := K1.out.below bn K1.out.lt; have e0 := r1.get 0; have e1 := r1.get 1; have e2 := r1.get 2; simp only [List.getElem?_toArray, List.getElem?_cons_zero, List.getElem?_cons_succ] at e0 e1 e2; have BN := Lib.hid bn; clear hb bn r1)
            | (go_at_call 17; refine (WB _ _ (HXB.out.below BN.out)).mono ?_; rintro e w11 ⟨rfl, hb⟩; have bn := BN.out.trans (hb.mono BN.out.size); have r1 := K1.out.below bn K1.out.lt; have e0 := r1.get 0; have e1 := r1.get 1; have e2 := r1.get 2; simp only [List.getElem?_toArray, List.getElem?_cons_zero, List.getElem?_cons_succ] at e0 e1 e2; have BN := Lib.hid bn; clear hb bn r1))
          all_goals
            have BF := Lib.hid (BZ.out.trans (BN.out.mono BZ.out.size))
            clear BN A8 WA WB RC
            go_wp2_with fail
            go_ret
            exact ⟨rfl, BF.out⟩
    · have y1 : (200 : Int) < (n : Int) := by omega
      go_wp2_with fail
      go_ret
      exact ⟨rfl, H2.out.1⟩
  · have y0 : (200 : Int) < (len : Int) := by omega
    go_wp2_with fail
    go_ret
    exact ⟨rfl, H2.out.1⟩
end Go.Proofs.YtmgdkdohadaknaaDoor.pickCustom
