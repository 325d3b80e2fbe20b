/- The walk of the law on web URLs: it returns true, and what was there stays. -/
import Derived.Test.YtmgdkdohadaknaaDoorPkSpeaks
import Derived.Test.YtmgdkdohadaknaaDoorPkRweb
import Derived.Test.YtmgdkdohadaknaaDoorPkSame
import Derived.Test.YtmgdkdohadaknaaDoorMdCls
import Derived.Laws.StructEq
import Derived.Deep.RegionWith
import Derived.Deep.DeepCutAuto
set_option linter.unusedSimpArgs false
set_option linter.unusedVariables false
namespace Go.Proofs.YtmgdkdohadaknaaDoor.pick
open Go.RowKit Go.Proofs.YtmgdkdohadaknaaDoor.errs Go.Proofs.YtmgdkdohadaknaaDoor.wire

set_option maxRecDepth 100000 in
theorem cd_ne (x : Cd) (w : World) : (binOp .neq 25 (.agg #[.string x.app, .bool x.c, .bool x.v, .bool x.l, .bool x.o]) (.agg #[.string x.app, .bool x.c, .bool x.v, .bool x.l, .bool x.o])).run Tryd.prog w = .ok (.bool false) w := by
  have ht : Tryd.prog.underlying 25 = some (.struct (Tryd.prog.fieldsOf 25)) := by kernel_rfl
  have hp : Tryd.prog.stoodInHeld 25 = false := by kernel_rfl
  rw [run_neq_struct, show (10000 : Nat) = 9998 + 1 + 1 from rfl, run_equalIn_agg w (9998 + 1) _ _ _ ht hp]
  have hf : Tryd.prog.fieldsOf 25 = (match Tryd.prog.underlying 25 with | some (.struct fs) => fs | _ => #[]) := rfl
  rw [hf, Tryd.underlying25]
  have s1 := Tryd.underlying9
  have s2 := Tryd.underlying4
  simp [Op.eqFields, part, isAgg, underlying, s1, s2, Result.andThen, run_equalIn_string, run_equalIn_bool']
end Go.Proofs.YtmgdkdohadaknaaDoor.pick
namespace Go.Proofs.YtmgdkdohadaknaaDoor.pickWeb
open Go.RowKit Go.Proofs.YtmgdkdohadaknaaDoor.errs Go.Proofs.YtmgdkdohadaknaaDoor.wire Go.Proofs.YtmgdkdohadaknaaDoor.pick Go.Proofs.YtmgdkdohadaknaaDoor.mcls

set_option maxRecDepth 100000 in
set_option maxHeartbeats 4000000 in
theorem law (a : Option Addr) (len cap : Nat) (L : List Cd) (W : World) (hI : (a = none → cap = 0) ∧ CdsIn W (.slice a len cap) L) (hS : ∀ x ∈ L, x.app.size ≤ 281474976710656) (hT : Tabs W) :
    Calls Tryd.prog 3 #[.slice a len cap] W fun e w' => e = .returned (.bool true) ∧ Below W.heap.size W w' := by
  have HN := Lib.hid hI.1
  have hln : len = L.length := (hI.2.at).1
  have HI := Lib.hid hI.2
  have HS := Lib.hid hS
  have SP := speaks_any W hT
  obtain ⟨i5, hi5, hz5, hs5, hy5⟩ := info_of infoCd
  have HLN := Lib.hid hln
  clear hI hS hT hln
  go_enter Tryd.func3, Tryd.ntmps3
  go_wp2_with fail
  refine SP.mono ?_; rintro e w1 ⟨rfl, hb1⟩
  have HB1 := Lib.hid hb1
  clear hb1 SP
  by_cases h2 : len ≤ 200
  · have y0 : ¬ (200 : Int) < (len : Int) := by omega
    go_wp2_with fail
    go_loopg [4, 15] len (fun g t4 t15 wr => ∃ i : Nat, t15 = .int .i64 (i : Int) ∧ i ≤ len ∧ Hid (i + g = len) ∧ Hid (Below W.heap.size W wr))
    case atStart => exact ⟨0, rfl, Nat.zero_le _, Nat.zero_add _, HB1.out⟩
    case round =>
      clear HB1
      obtain ⟨i, rfl, hi, hg, hB⟩ := hrel
      by_cases hlt : i < len
      · have y1 : (0 : Int) ≤ (i : Int) := by omega
        have y2 : (i : Int) < (len : Int) := by omega
        obtain ⟨b1, o1, rfl, hc⟩ := (HI.out.at).2.2.2 i hlt
        obtain ⟨e0, e1, e2, e3, e4⟩ := hc.below hB.out
        have C1 := fun w => ready_any (cdAt L i) w
        have C2 := fun w => rready_any (cdAt L i) w
        clear hc
        generalize cdAt L i = x at *
        obtain ⟨xa, xc, xv, xl, xo⟩ := x
        simp only at e0 e1 e2 e3 e4
        generalize ready ⟨xa, xc, xv, xl, xo⟩ = t at *
        have gB := blk_new wr #[.string xa, .bool xc, .bool xv, .bool xl, .bool xo] 25
        have HW1 : Hid (Below W.heap.size W (wr.alloc (.cells #[.string xa, .bool xc, .bool xv, .bool xl, .bool xo] 25))) := hB.out.alloc hB.out.size _
        go_wp2_with fail
        generalize wr.alloc (.cells #[.string xa, .bool xc, .bool xv, .bool xl, .bool xo] 25) = W1 at *
        generalize wr.heap.size = q0 at *
        have HG : Hid (∀ W', Kp W1 W' → W'.cell? ⟨q0, 0, none⟩ = some (.string xa) ∧ W'.cell? ⟨q0, 1, none⟩ = some (.bool xc) ∧ W'.cell? ⟨q0, 2, none⟩ = some (.bool xv) ∧ W'.cell? ⟨q0, 3, none⟩ = some (.bool xl) ∧ W'.cell? ⟨q0, 4, none⟩ = some (.bool xo)) := fun W' h => by
          have g := gB.below h.out gB.lt
          exact ⟨g.get 0, g.get 1, g.get 2, g.get 3, g.get 4⟩
        have D1 : Hid (∀ w, Kp W1 w → Calls Tryd.prog 9 #[.agg #[.string xa, .bool xc, .bool xv, .bool xl, .bool xo]] w fun e w' => e = .returned (.bool t) ∧ Kp W1 w') := fun w h => (C1 w).mono fun e w' ⟨h1, h2⟩ => ⟨h1, h.step h2⟩
        have D2 : Hid (∀ w, Kp W1 w → Calls Tryd.prog 10 #[.agg #[.string xa, .bool xc, .bool xv, .bool xl, .bool xo]] w fun e w' => e = .returned (.bool t) ∧ Kp W1 w') := fun w h => (C2 w).mono fun e w' ⟨h1, h2⟩ => ⟨h1, h.step h2⟩
        have nt : (t != t) = false := by rw [bne_eq_false_iff_eq]
        clear e0 e1 e2 e3 e4 gB hB C1 C2
        refine cq_region (by kernel_rfl) (by kernel_rfl) ?_
        iterate 5 (first
          | (refine cq_op rfl ?_; apply Exists.intro; refine ⟨fun W hW => ?_, ?_⟩; (focus (obtain ⟨l0, l1, l2, l3, l4⟩ := HG.out W hW; go_simp; with_reducible rfl)); simp only [Act.put, List.setIfInBounds_toArray, List.set_cons_zero, List.set_cons_succ])
          | (refine cq_call rfl _ _ (.bool t) ?_ D1.out ?_; (focus (intro W; go_simp; done)); simp only [Act.put, List.setIfInBounds_toArray, List.set_cons_zero, List.set_cons_succ])
          | (refine cq_call rfl _ _ (.bool t) ?_ D2.out ?_; (focus (intro W; go_simp; done)); simp only [Act.put, List.setIfInBounds_toArray, List.set_cons_zero, List.set_cons_succ]))
        refine wpQuiet_nil ?_
        intro w5 k5
        have K5 := Lib.hid (HW1.out.trans (k5.out.mono HW1.out.size))
        clear k5 HG D1 D2 HW1
        go_wp2_with fail
        go_roundg (gk - 1)
        case measure => have := hg.out; omega
        case rel => exact ⟨i + 1, by go_num, by omega, by have := hg.out; show _ = _; omega, K5.out⟩
      · obtain rfl : i = len := by omega
        have y1 : ¬ (i : Int) < (i : Int) := by omega
        have OE : OwnC (wr.alloc (.cells #[] 25)) wr.heap.size (.slice (some ⟨wr.heap.size, 0, none⟩) 0 0) [] := World.ownsRow_lit wr #[] 0 (Nat.le_refl _) (by unfold maxLen; omega) rfl
        have BE : Below wr.heap.size wr (wr.alloc (.cells #[] 25)) := (Below.refl _ _).alloc (Nat.le_refl _) _
        have IE := (HI.out.below hB.out).below BE
        have HZ : Hid (wr.heap.size ≤ (wr.alloc (.cells #[] 25)).heap.size) := BE.size
        have HE := Lib.hid (And.intro OE (And.intro BE IE))
        clear OE BE IE
        go_wp2_with (at_builtin; refine append_cds hi5 hz5 hs5 hy5 HE.out.1 a i cap HE.out.2.2 HN.out (Nat.zero_le _) (by rw [← HLN.out]; omega) HZ.out rfl _ _ rfl rfl rfl ?_)
        intro v' w2 hO hb2 _
        have hB2 := hB.out.trans ((HE.out.2.1.trans hb2).mono hB.out.size)
        have C := web_any L HS.out (by rw [← HLN.out]; omega) v' w2 hO.reads
        have HO := Lib.hid hO.reads
        have HB2 := Lib.hid hB2
        obtain ⟨va, vc, rfl⟩ := hO.form
        clear hO hb2 hB2 HE HZ
        go_wp2_with fail
        refine C.mono ?_; rintro e w3 ⟨x, rfl, hx, hb3⟩
        have HO3 := HO.out.below hb3
        have HB3 := HB2.out.trans (hb3.mono HB2.out.size)
        obtain ⟨s, rfl, hs⟩ := hx
        obtain ⟨sa, sc, rfl⟩ := hs.form
        obtain ⟨X, hX⟩ : ∃ X, Hid (webA L = X) := ⟨_, rfl⟩
        rw [hX.out] at hs ⊢
        obtain ⟨m, hm⟩ : ∃ m, Hid (X.apps.length = m) := ⟨_, rfl⟩
        rw [hm.out] at hs ⊢
        have b4 : Below w3.heap.size w3 (w3.alloc (.cells #[.int .i64 X.kind, .slice sa m sc, .int .i64 X.why] 29)) := (Below.refl _ _).alloc (Nat.le_refl _) _
        have B4 := blk_new w3 #[.int .i64 X.kind, .slice sa m sc, .int .i64 X.why] 29
        have H4 := Lib.hid (And.intro (HO3.below b4) (And.intro (HB3.trans (b4.mono HB3.size)) (And.intro (hs.below b4) B4)))
        clear hb3 HO3 HB3 hs C HO HB2 b4 B4
        go_wp2_with fail
        generalize w3.alloc (.cells #[.int .i64 X.kind, .slice sa m sc, .int .i64 X.why] 29) = W4 at *
        generalize w3.heap.size = q4 at *
        rw [← HLN.out] at H4 ⊢
        go_loopg [7, 32] i (fun g t7 t32 wq => ∃ j : Nat, t32 = .int .i64 (j : Int) ∧ j ≤ i ∧ Hid (j + g = i) ∧ Hid (Below W4.heap.size W4 wq))
        case atStart => exact ⟨0, rfl, Nat.zero_le _, Nat.zero_add _, Below.refl _ _⟩
        case round =>
          obtain ⟨j, rfl, hj, hg, hB5⟩ := hrel
          by_cases hlt : j < i
          · have y2 : (0 : Int) ≤ (j : Int) := by omega
            have y3 : (j : Int) < (i : Int) := by omega
            obtain ⟨b1, o1, rfl, hc⟩ := (HI.out.at).2.2.2 j hlt
            obtain ⟨e0, e1, e2, e3, e4⟩ := (hc.below H4.out.2.1).below hB5.out
            obtain ⟨b2, o2, rfl, hd⟩ := ((H4.out.1).at).2.2.2 j hlt
            obtain ⟨f0, f1, f2, f3, f4⟩ := hd.below hB5.out
            have NE := cd_ne (cdAt L j)
            generalize cdAt L j = z at *
            obtain ⟨xa, xc, xv, xl, xo⟩ := z
            simp only at e0 e1 e2 e3 e4 f0 f1 f2 f3 f4 NE
            clear hc hd
            go_wp2_with fail
            go_quiet (fail)
            go_wp2_with fail
            go_roundg (gk - 1)
            case measure => have := hg.out; omega
            case rel => exact ⟨j + 1, by go_num, by omega, by have := hg.out; show _ = _; omega, below_drawN hB5.out _⟩
          · obtain rfl : j = i := by omega
            have y3 : ¬ (j : Int) < (j : Int) := by omega
            have r1 := H4.out.2.2.2.below hB5.out H4.out.2.2.2.lt
            have B6 := H4.out.2.1.trans (hB5.out.mono H4.out.2.1.size)
            have I6 := HI.out.below B6
            have A1 : Hid (AnsV wr.drew (.agg #[.int .i64 X.kind, .slice sa m sc, .int .i64 X.why]) X) := ⟨_, rfl, H4.out.2.2.1.below (hB5.out.drew)⟩
            have r2 := r1.below (Below.refl _ wr).drew r1.lt
            have d0 := r2.get 0
            have d1 := r2.get 1
            have d2 := r2.get 2
            simp only [List.getElem?_toArray, List.getElem?_cons_zero, List.getElem?_cons_succ] at d0 d1 d2
            have CW := rweb_any L (by rw [← HLN.out]; omega) _ wr.drew (I6.below (Below.refl _ wr).drew)
            rw [hX.out] at CW
            have R2 := Lib.hid r2
            have B7 := Lib.hid (B6.trans ((Below.refl _ wr).drew.mono B6.size))
            clear r1 r2 hB5 I6 B6 H4 HI
            go_wp2_with fail
            go_region_with (first
              | (go_at_call 13; refine CW.mono ?_; rintro e w8 ⟨x8, rfl, h8, hb8⟩; have r8 := R2.out.below hb8 R2.out.lt; have d0 := r8.get 0; have d1 := r8.get 1; have d2 := r8.get 2; simp only [List.getElem?_toArray, List.getElem?_cons_zero, List.getElem?_cons_succ] at d0 d1 d2; have A8 := Lib.hid h8; obtain ⟨s8, rfl, hs8⟩ := h8; obtain ⟨sa8, sc8, rfl⟩ := hs8.form; clear hs8 r8)
              | (go_at_call 12; refine (same_is X _ _ w8 (A1.out.below hb8) A8.out).mono ?_; rintro e w9 ⟨rfl, hb9⟩))
            all_goals
              have B9 := Lib.hid (B7.out.trans ((hb8.trans (hb9.mono hb8.size)).mono B7.out.size))
              clear hb8 hb9 A8 CW
              go_wp2_with fail
              go_ret
              exact ⟨rfl, B9.out⟩
  · have y0 : (200 : Int) < (len : Int) := by omega
    go_wp2_with fail
    go_ret
    exact ⟨rfl, HB1.out⟩
end Go.Proofs.YtmgdkdohadaknaaDoor.pickWeb
