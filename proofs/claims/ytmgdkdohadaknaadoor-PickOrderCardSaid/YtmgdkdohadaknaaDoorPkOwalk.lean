/- The walk of the law on order: it returns true, and what was there stays (made by wip/tools/genpkord.py). -/
import Derived.Test.YtmgdkdohadaknaaDoorPkSpeaks
import Derived.Test.YtmgdkdohadaknaaDoorPkSame
import Derived.Test.YtmgdkdohadaknaaDoorPkMath2
import Derived.Test.YtmgdkdohadaknaaDoorPkRef
import Derived.Deep.RegionWith
import Derived.Deep.DeepCutAuto
set_option linter.unusedSimpArgs false
set_option linter.unusedVariables false
namespace Go.Proofs.YtmgdkdohadaknaaDoor.pick
open Go.RowKit Go.Proofs.YtmgdkdohadaknaaDoor.errs Go.Proofs.YtmgdkdohadaknaaDoor.wire

theorem OwnS.others {W w' : World} {B : Nat} {u v : Value} {l : List ByteArray} (h : OwnS W B v l) (ho : Others u W w') (hd : ∀ q, v.ownBlock = some q → u.ownBlock ≠ some q) : OwnS w' B v l := by
  have hl := World.ownsRow.lt h
  refine ⟨h.1, h.2.imp id ?_⟩
  rintro ⟨g, cap, cur, e, h1, h2, h3⟩
  subst e
  exact ⟨g, cap, cur, rfl, h1, (ho g (hl g rfl).2 (hd g rfl)).trans h2, h3⟩
theorem OwnC.others {W w' : World} {B : Nat} {u v : Value} {L : List Cd} (h : OwnC W B v L) (ho : Others u W w') (hd : ∀ q, v.ownBlock = some q → u.ownBlock ≠ some q) : OwnC w' B v L := by
  have hl := World.ownsRow.lt h
  refine ⟨h.1, h.2.imp id ?_⟩
  rintro ⟨g, cap, cur, e, h1, h2, h3⟩
  subst e
  exact ⟨g, cap, cur, rfl, h1, (ho g (hl g rfl).2 (hd g rfl)).trans h2, h3⟩
theorem filter_snoc (L : List Cd) (x : Cd) : (L ++ [x]).filter ready = if ready x then L.filter ready ++ [x] else L.filter ready := by
  rw [List.filter_append]
  cases h : ready x <;> simp [h]
/-- Two slices of the call's own, apart. -/
structure Pair (w : World) (B : Nat) (vc vs : Value) (F : List Cd) (l : List ByteArray) : Prop where
  c : OwnC w B vc F
  s : OwnS w B vs l
  apart : ∀ q, vc.ownBlock = some q → vs.ownBlock ≠ some q
theorem Pair.on {w w' : World} {B : Nat} {vc vs : Value} {F : List Cd} {l : List ByteArray} (h : Pair w B vc vs F l) (hb : Keeps w w') : Pair w' B vc vs F l := ⟨h.c.kept hb, h.s.kept hb, h.apart⟩
theorem Pair.putC {w w' : World} {B : Nat} {vc vs v' : Value} {F F' : List Cd} {l : List ByteArray} (h : Pair w B vc vs F l) (hp : PutC B w w' vc v' F') : Pair w' B v' vs F' l :=
  ⟨hp.own, h.s.others hp.others (fun q hq e => h.apart q e hq), fun q hq e => by
    rcases hp.place with h1 | h1
    · exact h.apart q (h1 ▸ hq) e
    · have := (World.ownsRow.lt h.s q e).2
      have := h1 q hq
      omega⟩
theorem Pair.putS {w w' : World} {B : Nat} {vc vs v' : Value} {F : List Cd} {l l' : List ByteArray} (h : Pair w B vc vs F l) (hp : PutS B w w' vs v' l') : Pair w' B vc v' F l' :=
  ⟨h.c.others hp.others h.apart, hp.own, fun q hq e => by
    rcases hp.place with h1 | h1
    · exact h.apart q hq (h1 ▸ e)
    · have := (World.ownsRow.lt h.c q hq).2
      have := h1 q e
      omega⟩
end Go.Proofs.YtmgdkdohadaknaaDoor.pick
namespace Go.Proofs.YtmgdkdohadaknaaDoor.pickOrder
open Go.RowKit Go.Proofs.YtmgdkdohadaknaaDoor.errs Go.Proofs.YtmgdkdohadaknaaDoor.wire Go.Proofs.YtmgdkdohadaknaaDoor.pick

set_option maxRecDepth 100000 in
set_option maxHeartbeats 4000000 in
theorem law (a : Option Addr) (len cap : Nat) (L : List Cd) (W : World) (hI : (a = none → cap = 0) ∧ CdsIn W (.slice a len cap) L) (hS : ∀ x ∈ L, x.app.size ≤ 281474976710656) (hT : Tabs W) :
    Calls Tryd.prog 6 #[.slice a len cap] W fun e w' => e = .returned (.bool true) ∧ Below W.heap.size W w' := by
  have hln : len = L.length := (hI.2.at).1
  have HI := Lib.hid hI.2
  have HS := Lib.hid hS
  have SP := speaks_any W hT
  obtain ⟨i5, hi5, hz5, hs5, hy5⟩ := info_of infoCd
  obtain ⟨i1, hi1, hz1, hs1, hy1⟩ := info_of infoText
  have HLN := Lib.hid hln
  clear hI hS hT hln
  go_enter Tryd.func6, Tryd.ntmps6
  go_wp2_with fail
  refine SP.mono ?_; rintro e w1 ⟨rfl, hb1⟩
  have HB1 := Lib.hid hb1
  clear hb1 SP
  by_cases h2 : len ≤ 200
  · have y0 : ¬ (200 : Int) < (len : Int) := by omega
    have P0 : Hid (Pair ((w1.alloc (.cells #[] 25)).alloc (.cells #[] 9)) w1.heap.size (.slice (some ⟨w1.heap.size, 0, none⟩) 0 0) (.slice (some ⟨w1.heap.size + 1, 0, none⟩) 0 0) [] []) := by
      have h1 : OwnC (w1.alloc (.cells #[] 25)) w1.heap.size (.slice (some ⟨w1.heap.size, 0, none⟩) 0 0) [] := World.ownsRow_lit w1 #[] 0 (Nat.le_refl _) (by unfold maxLen; omega) rfl
      have h2 : OwnS ((w1.alloc (.cells #[] 25)).alloc (.cells #[] 9)) w1.heap.size (.slice (some ⟨(w1.alloc (.cells #[] 25)).heap.size, 0, none⟩) 0 0) [] := World.ownsRow_lit (w1.alloc (.cells #[] 25)) #[] 0 (by simp) (by unfold maxLen; omega) rfl
      rw [show (w1.alloc (.cells #[] 25)).heap.size = w1.heap.size + 1 by simp] at h2
      exact ⟨h1.kept ((Below.refl _ _).alloc (Nat.le_refl _) _), h2, fun q hq e => by have hq : w1.heap.size = q := Option.some.inj hq; have e : w1.heap.size + 1 = q := Option.some.inj e; omega⟩
    have BB : Hid (Below w1.heap.size w1 ((w1.alloc (.cells #[] 25)).alloc (.cells #[] 9))) := ((Below.refl _ _).alloc (Nat.le_refl _) _).alloc (by simp) _
    go_wp2_with fail
    generalize (w1.alloc (.cells #[] 25)).alloc (.cells #[] 9) = W0 at *
    go_loopg [3, 4, 6, 17] len (fun g t3 t4 t6 t17 wr => ∃ (i : Nat) (vc vs : Value), vc = t3 ∧ vs = t4 ∧ t17 = .int .i64 (i : Int) ∧ i ≤ len ∧ Hid (i + g = len) ∧ Aside (Pair wr w1.heap.size vc vs ((L.take i).filter ready) (appsOf (L.take i))) ∧ Aside (Below w1.heap.size w1 wr))
    case atStart => exact ⟨0, _, _, rfl, rfl, rfl, Nat.zero_le _, Nat.zero_add _, P0.out, BB.out⟩
    case round =>
      clear P0 BB
      obtain ⟨i, vc, vs, rfl, rfl, rfl, hi, hg, hP, hB⟩ := hrel
      by_cases hlt : i < len
      · have y1 : (0 : Int) ≤ (i : Int) := by omega
        have y2 : (i : Int) < (len : Int) := by omega
        have hlt' : i < L.length := by rw [← HLN.out]; exact hlt
        obtain ⟨b1, o1, rfl, hc⟩ := (HI.out.at).2.2.2 i hlt
        obtain ⟨e0, e1, e2, e3, e4⟩ := (hc.below HB1.out).below hB.out
        have HT : Hid (L.take i ++ [cdAt L i] = L.take (i + 1)) := cd_snoc hlt'
        have hfl : ((L.take i).filter ready).length ≤ i := Nat.le_trans (List.length_filter_le _ _) (by rw [List.length_take]; omega)
        have hal : (appsOf (L.take i)).length ≤ i := Nat.le_trans (appsOf_len _) (by rw [List.length_take]; omega)
        have HM : Hid ((L.take (i + 1)).filter ready = (if ready (cdAt L i) then (L.take i).filter ready ++ [cdAt L i] else (L.take i).filter ready) ∧ appsOf (L.take (i + 1)) = if ready (cdAt L i) then appsOf (L.take i) ++ [(cdAt L i).app] else appsOf (L.take i)) := by
          rw [← HT.out]
          exact ⟨filter_snoc _ _, appsOf_snoc _ _⟩
        have RK := Lib.hid (rank_is (cdAt L i))
        obtain ⟨M, hM⟩ : ∃ M, appsOf (L.take i) = M := ⟨_, rfl⟩
        obtain ⟨F, hF⟩ : ∃ F, (L.take i).filter ready = F := ⟨_, rfl⟩
        rw [hM] at hal HM hP
        rw [hF] at hfl HM hP
        clear hc hlt' hM hF HT
        generalize cdAt L i = x at *
        obtain ⟨xa, xc, xv, xl, xo⟩ := x
        simp only at e0 e1 e2 e3 e4
        have bC : Below wr.heap.size wr (wr.alloc (.cells #[.string xa, .bool xc, .bool xv, .bool xl, .bool xo] 25)) := (Below.refl _ _).alloc (Nat.le_refl _) _
        have HP := Lib.hid (And.intro (hP.out.on bC) (hB.out.trans (bC.mono hB.out.size)))
        have gB := blk_new wr #[.string xa, .bool xc, .bool xv, .bool xl, .bool xo] 25
        have hn1 : Hid (∀ q, vc.ownBlock = some q → q ≠ wr.heap.size) := fun q e => by have := (World.ownsRow.lt hP.out.c q e).2; omega
        have GB := Lib.hid gB
        have g0 := gB.get 0
        have g1 := gB.get 1
        have g2 := gB.get 2
        have g3 := gB.get 3
        have g4 := gB.get 4
        simp only [List.getElem?_toArray, List.getElem?_cons_zero, List.getElem?_cons_succ] at g0 g1 g2 g3 g4
        clear hB hP gB bC
        cases xc with
        | false =>
          have RK := RK.out.1
          obtain ⟨q1, -⟩ := RK rfl
          rw [q1] at HM
          clear q1 RK
          have HM := Lib.hid (And.intro (HM.out.1.trans (if_neg Bool.false_ne_true)) (HM.out.2.trans (if_neg Bool.false_ne_true)))
          clear GB
          go_wp2_with fail
          go_roundg (gk - 1)
          case measure => have := hg.out; omega
          case rel => exact ⟨i + 1, vc, vs, rfl, rfl, by go_num, by omega, by have := hg.out; show _ = _; omega, by rw [HM.out.1, HM.out.2]; exact HP.out.1, HP.out.2⟩
        | true =>
          cases xv with
          | false =>
            have RK := RK.out.2.1
            obtain ⟨q1, -⟩ := RK rfl rfl
            rw [q1] at HM
            clear q1 RK
            have HM := Lib.hid (And.intro (HM.out.1.trans (if_neg Bool.false_ne_true)) (HM.out.2.trans (if_neg Bool.false_ne_true)))
            clear GB
            go_wp2_with fail
            go_roundg (gk - 1)
            case measure => have := hg.out; omega
            case rel => exact ⟨i + 1, vc, vs, rfl, rfl, by go_num, by omega, by have := hg.out; show _ = _; omega, by rw [HM.out.1, HM.out.2]; exact HP.out.1, HP.out.2⟩
          | true =>
            cases xl with
            | false =>
              have RK := RK.out.2.2.1
              obtain ⟨q1, -⟩ := RK rfl rfl rfl
              rw [q1] at HM
              clear q1 RK
              have HM := Lib.hid (And.intro (HM.out.1.trans (if_neg Bool.false_ne_true)) (HM.out.2.trans (if_neg Bool.false_ne_true)))
              clear GB
              go_wp2_with fail
              go_roundg (gk - 1)
              case measure => have := hg.out; omega
              case rel => exact ⟨i + 1, vc, vs, rfl, rfl, by go_num, by omega, by have := hg.out; show _ = _; omega, by rw [HM.out.1, HM.out.2]; exact HP.out.1, HP.out.2⟩
            | true =>
              cases xo with
              | false =>
                have RK := RK.out.2.2.2.1
                obtain ⟨q1, -⟩ := RK rfl rfl rfl rfl
                rw [q1] at HM
                clear q1 RK
                have HM := Lib.hid (And.intro (HM.out.1.trans (if_pos rfl)) (HM.out.2.trans (if_pos rfl)))
                go_upto_region 10 with fail
                generalize wr.alloc (.cells #[.string xa, .bool true, .bool true, .bool true, .bool false] 25) = W1 at *
                generalize wr.heap.size = q0 at *
                clear e0 e1 e2 e3 e4
                go_wp2_with (at_builtin; refine push_cd hi5 hz5 hs5 hy5 HP.out.1.c ⟨xa, true, true, true, false⟩ (by omega) HP.out.2.size rfl _ _ rfl rfl _ rfl rfl ?_)
                intro v5 w5 hp5
                have gb5 : Blk w5 q0 _ _ := (hp5.others q0 GB.out.lt (fun e => hn1.out _ e rfl)).trans GB.out
                have g0 := gb5.get 0
                simp only [List.getElem?_toArray, List.getElem?_cons_zero, List.getElem?_cons_succ] at g0
                have HP5 := Lib.hid (And.intro (HP.out.1.putC hp5) (HP.out.2.trans hp5.below))
                clear hp5 gb5 HP GB g1 g2 g3 g4
                go_wp2_with (at_builtin; refine push_str hi1 hz1 hs1 hy1 HP5.out.1.s xa (by omega) HP5.out.2.size rfl _ _ rfl rfl _ rfl rfl ?_)
                intro v6 w6 hp6
                have HP6 := Lib.hid (And.intro (HP5.out.1.putS hp6) (HP5.out.2.trans hp6.below))
                clear hp6 HP5 g0
                go_wp2_with fail
                go_roundg (gk - 1)
                case measure => have := hg.out; omega
                case rel => exact ⟨i + 1, v5, v6, rfl, rfl, by go_num, by omega, by have := hg.out; show _ = _; omega, by rw [HM.out.1, HM.out.2]; exact HP6.out.1, HP6.out.2⟩
              | true =>
                have RK := RK.out.2.2.2.2
                obtain ⟨q1, -⟩ := RK rfl rfl rfl rfl
                rw [q1] at HM
                clear q1 RK
                have HM := Lib.hid (And.intro (HM.out.1.trans (if_neg Bool.false_ne_true)) (HM.out.2.trans (if_neg Bool.false_ne_true)))
                clear GB
                go_wp2_with fail
                go_roundg (gk - 1)
                case measure => have := hg.out; omega
                case rel => exact ⟨i + 1, vc, vs, rfl, rfl, by go_num, by omega, by have := hg.out; show _ = _; omega, by rw [HM.out.1, HM.out.2]; exact HP.out.1, HP.out.2⟩
      · obtain rfl : i = len := by omega
        have y1 : ¬ (i : Int) < (i : Int) := by omega
        rw [List.take_of_length_le (by rw [← HLN.out]; exact Nat.le_refl _)] at hP
        have C := web_any L HS.out (by rw [← HLN.out]; omega) _ wr ((HI.out.below HB1.out).below hB.out)
        obtain ⟨ca, cc, rfl⟩ := hP.out.c.form
        obtain ⟨ta, tc, rfl⟩ := hP.out.s.form
        have H0 := Lib.hid (And.intro hP.out.c.reads (And.intro hP.out.s.reads (HB1.out.trans (hB.out.mono HB1.out.size))))
        clear hP hB
        go_wp2_with fail
        refine C.mono ?_; rintro e w3 ⟨x, rfl, ⟨s1, rfl, hs1⟩, hb3⟩
        obtain ⟨sa, sc, rfl⟩ := hs1.form
        obtain ⟨F, hF⟩ : ∃ F, Hid (L.filter ready = F) := ⟨_, rfl⟩
        obtain ⟨l, hl⟩ : ∃ l, Hid (appsOf L = l) := ⟨_, rfl⟩
        have CW := fun W' (h : CdsIn W' (.slice ca F.length cc) F) => web_any F (fun x hx => HS.out x (by rw [← hF.out] at hx; exact (List.mem_filter.1 hx).1)) (by rw [← hF.out]; exact Nat.le_trans (List.length_filter_le _ _) (by rw [← HLN.out]; omega)) _ W' h
        have CC := fun W' (h : StrsIn W' (.slice ta l.length tc) l) => custom_any l (fun s hs => by rw [← hl.out] at hs; obtain ⟨x, hx, rfl⟩ := appsOf_mem hs; exact HS.out x hx) (by rw [← hl.out]; exact Nat.le_trans (appsOf_len _) (by rw [← HLN.out]; omega)) _ W' h
        have MN := @web_none L
        have MF := @web_filter L
        have MC := @web_custom L
        obtain ⟨X, hX⟩ : ∃ X, Hid (webA L = X) := ⟨_, rfl⟩
        rw [hX.out] at hs1 MN MF MC ⊢
        rw [hF.out] at H0 MN MF MC ⊢
        rw [hl.out] at H0 MC ⊢
        have HMM := Lib.hid (And.intro MN (And.intro MF MC))
        obtain ⟨m, hm⟩ : ∃ m, Hid (X.apps.length = m) := ⟨_, rfl⟩
        obtain ⟨f, hf⟩ : ∃ f, Hid (F.length = f) := ⟨_, rfl⟩
        rw [hm.out] at hs1 ⊢
        rw [hf.out] at H0 CW ⊢
        have B3 := H0.out.2.2.trans (hb3.mono H0.out.2.2.size)
        have b4 : Below w3.heap.size w3 (w3.alloc (.cells #[.int .i64 X.kind, .slice sa m sc, .int .i64 X.why] 29)) := (Below.refl _ _).alloc (Nat.le_refl _) _
        have K4 := blk_new w3 #[.int .i64 X.kind, .slice sa m sc, .int .i64 X.why] 29
        have H4 := Lib.hid (And.intro ((H0.out.1.below hb3).below b4) (And.intro ((H0.out.2.1.below hb3).below b4) (And.intro K4 (And.intro (hs1.below b4) (B3.trans (b4.mono B3.size))))))
        clear hs1 hb3 B3 b4 K4 C H0 MN MF MC
        go_upto_region 14 with fail
        generalize w3.alloc (.cells #[.int .i64 X.kind, .slice sa m sc, .int .i64 X.why] 29) = W4 at *
        generalize w3.heap.size = q4 at *
        have u0 := H4.out.2.2.1.get 0
        have u1 := H4.out.2.2.1.get 1
        have u2 := H4.out.2.2.1.get 2
        simp only [List.getElem?_toArray, List.getElem?_cons_zero, List.getElem?_cons_succ] at u0 u1 u2
        by_cases hz : f = 0
        · have hF0 : F = [] := List.length_eq_zero_iff.1 (hf.out.trans hz)
          have y3 : ((f : Int) == 0) = true := by rw [beq_iff_eq]; omega
          have hk := (HMM.out.1 hF0).1
          have hm0 : m = 0 := by rw [← hm.out, (HMM.out.1 hF0).2]; rfl
          have y4 : ((m : Int) == 0) = true := by rw [beq_iff_eq]; omega
          rw [hk] at u0
          clear hz hF0 hk hm0 CW CC
          go_wp2_with fail
          go_ret
          exact ⟨rfl, H4.out.2.2.2.2⟩
        · have hF0 : F ≠ [] := fun e => hz (by rw [← hf.out, e]; rfl)
          have y3 : ((f : Int) == 0) = false := by rw [beq_eq_false_iff_ne]; omega
          have e1 := HMM.out.2.1 hF0
          have e2 := HMM.out.2.2 hF0
          rw [e1] at CW
          rw [e2] at CC
          have HA : Hid (AnsV W4 (.agg #[.int .i64 X.kind, .slice sa m sc, .int .i64 X.why]) X) := ⟨_, rfl, H4.out.2.2.2.1⟩
          have HCW := Lib.hid CW
          have HCC := Lib.hid CC
          have dr : Below W4.heap.size W4 W4.drew := (Below.refl _ W4).drew
          have r4 := H4.out.2.2.1.below dr H4.out.2.2.1.lt
          have d0 := r4.get 0
          have d1 := r4.get 1
          have d2 := r4.get 2
          simp only [List.getElem?_toArray, List.getElem?_cons_zero, List.getElem?_cons_succ] at d0 d1 d2
          have DR := Lib.hid dr
          clear hz hF0 e1 e2 CW CC u0 u1 u2 r4 dr
          go_wp2_with fail
          go_region_with (first
            | (go_at_call 11; refine (HCW.out _ (H4.out.1.below DR.out)).mono ?_; rintro e w8 ⟨x8, rfl, h8, hb8⟩; have b8 := DR.out.trans hb8; have r8 := H4.out.2.2.1.below b8 H4.out.2.2.1.lt; have d0 := r8.get 0; have d1 := r8.get 1; have d2 := r8.get 2; simp only [List.getElem?_toArray, List.getElem?_cons_zero, List.getElem?_cons_succ] at d0 d1 d2; have A8 := Lib.hid h8; have B8 := Lib.hid b8; obtain ⟨s8, rfl, hs8⟩ := h8; obtain ⟨sa8, sc8, rfl⟩ := hs8.form; clear hs8 r8 b8 hb8)
            | (go_at_call 14; refine (HCC.out _ (H4.out.2.1.below B9.out)).mono ?_; rintro e w10 ⟨x10, rfl, h10, hb10⟩; have b10 := B9.out.trans (hb10.mono B9.out.size); have r10 := H4.out.2.2.1.below b10 H4.out.2.2.1.lt; have d0 := r10.get 0; have d1 := r10.get 1; have d2 := r10.get 2; simp only [List.getElem?_toArray, List.getElem?_cons_zero, List.getElem?_cons_succ] at d0 d1 d2; have A10 := Lib.hid h10; have B10 := Lib.hid b10; obtain ⟨s10, rfl, hs10⟩ := h10; obtain ⟨sa10, sc10, rfl⟩ := hs10.form; clear hs10 r10 b10 hb10)
            | (go_at_call 12; refine (same_is X _ _ w10 (HA.out.below B10.out) A10.out).mono ?_; rintro e w11 ⟨rfl, hb11⟩; have B11 := Lib.hid (B10.out.trans (hb11.mono B10.out.size)); clear hb11)
            | (go_at_call 12; refine (same_is X _ _ w8 (HA.out.below B8.out) A8.out).mono ?_; rintro e w9 ⟨rfl, hb9⟩; have b9 := B8.out.trans (hb9.mono B8.out.size); have r9 := H4.out.2.2.1.below b9 H4.out.2.2.1.lt; have d0 := r9.get 0; have d1 := r9.get 1; have d2 := r9.get 2; simp only [List.getElem?_toArray, List.getElem?_cons_zero, List.getElem?_cons_succ] at d0 d1 d2; have B9 := Lib.hid b9; clear r9 b9 hb9))
          all_goals
            have BZ := Lib.hid (H4.out.2.2.2.2.trans (B11.out.mono H4.out.2.2.2.2.size))
            clear A10 A8 B11 B10 B9 B8 HCW HCC
            go_wp2_with fail
            go_ret
            exact ⟨rfl, BZ.out⟩
  · have y0 : (200 : Int) < (len : Int) := by omega
    go_wp2_with fail
    go_ret
    exact ⟨rfl, HB1.out⟩
end Go.Proofs.YtmgdkdohadaknaaDoor.pickOrder
