/- The document's Web (made by wip/tools/genpkweb.py). -/
import Derived.Test.YtmgdkdohadaknaaDoorPkRef
set_option linter.unusedSimpArgs false
set_option linter.unusedVariables false
namespace Go.Proofs.YtmgdkdohadaknaaDoor.pick
open Go.RowKit Go.Proofs.YtmgdkdohadaknaaDoor.errs Go.Proofs.YtmgdkdohadaknaaDoor.wire

set_option maxRecDepth 100000 in
set_option maxHeartbeats 4000000 in
theorem rweb_any (L : List Cd) (hn : L.length ≤ 1000) (v : Value) (w : World) (h : CdsIn w v L) :
    Calls Tryd.prog 13 #[v] w fun e w' => ∃ x, e = .returned x ∧ AnsV w' x (webA L) ∧ Below w.heap.size w w' := by
  obtain ⟨a, cap, rfl⟩ := h.form
  obtain ⟨i1, hi1, hz1, hs1, hy1⟩ := info_of infoText
  obtain ⟨W0, hW0⟩ : ∃ W0, w.alloc (.cells #[.int .i64 0, .slice none 0 0, .int .i64 0] 29) = W0 := ⟨_, rfl⟩
  have hb0 : Below w.heap.size w W0 := by rw [← hW0]; exact (Below.refl _ w).alloc (Nat.le_refl _) _
  have hR : Blk W0 w.heap.size #[.int .i64 0, .slice none 0 0, .int .i64 0] 29 := by rw [← hW0]; exact blk_new w _ _
  have HS0 : Hid (W0.heap.size = w.heap.size + 1) := by show _ = _; rw [← hW0]; simp
  have HI := Lib.hid (h.below hb0)
  have HB0 := Lib.hid hb0
  have HR := Lib.hid hR
  have HW := Lib.hid hW0
  clear hb0 hR h hW0
  obtain ⟨n, hnn⟩ : ∃ n, Hid (L.length = n) := ⟨_, rfl⟩
  rw [hnn.out] at hn ⊢
  obtain ⟨X, hX⟩ : ∃ X, Hid (webA L = X) := ⟨_, rfl⟩
  rw [hX.out]
  go_enter Tryd.func13, Tryd.ntmps13
  go_wp2_with fail
  rw [HW.out]
  have AN : Hid (OwnS (W0.alloc (.cells #[] 9)) W0.heap.size (.slice (some ⟨W0.heap.size, 0, none⟩) 0 0) []) := World.ownsRow_lit W0 #[] 0 (Nat.le_refl _) (by unfold maxLen; omega) rfl
  clear HW
  go_loopg [3, 4, 5, 6, 7] n (fun g t3 t4 t5 t6 t7 wr => ∃ (i : Nat) (v : Value) (wv : Int), v = t3 ∧ t4 = .int .i64 wv ∧ t5 = .int .i64 (i : Int) ∧ i ≤ n ∧ Hid (i + g = n) ∧ Hid (wv = whyNone (L.take i)) ∧ Aside (OwnS wr W0.heap.size v (appsOf (L.take i))) ∧ Aside (Below W0.heap.size W0 wr))
  case atStart => exact ⟨0, _, 4, rfl, rfl, rfl, Nat.zero_le _, Nat.zero_add _, rfl, by rw [← HS0.out]; exact AN.out, (Below.refl _ _).alloc (Nat.le_refl _) _⟩
  case round =>
    clear AN
    obtain ⟨i, v, wv, rfl, rfl, rfl, hi, hg, hwv, hO, hB⟩ := hrel
    by_cases hlt : i < n
    · have y0 : (0 : Int) ≤ (i : Int) := by omega
      have y1 : (i : Int) < (n : Int) := by omega
      have hlt' : i < L.length := by rw [hnn.out]; exact hlt
      obtain ⟨b1, o1, rfl, hc⟩ := (HI.out.at).2.2.2 i hlt'
      obtain ⟨e0, e1, e2, e3, e4⟩ := hc.below hB.out
      have HS : Hid (L.take i ++ [cdAt L i] = L.take (i + 1)) := cd_snoc hlt'
      have hal : (appsOf (L.take i)).length ≤ i := Nat.le_trans (appsOf_len _) (by rw [List.length_take]; omega)
      have HM : Hid (appsOf (L.take (i + 1)) = if ready (cdAt L i) then appsOf (L.take i) ++ [(cdAt L i).app] else appsOf (L.take i)) := by
        show _ = _
        rw [← HS.out]; exact appsOf_snoc _ _
      have HN : Hid (whyNone (L.take (i + 1)) = if rank (cdAt L i) > wv then rank (cdAt L i) else wv) := by
        show _ = _
        rw [← HS.out, hwv.out]; exact whyNone_snoc _ _
      have RK := Lib.hid (rank_is (cdAt L i))
      obtain ⟨M, hM⟩ : ∃ M, appsOf (L.take i) = M := ⟨_, rfl⟩
      rw [hM] at hal HM hO
      have C := fun w => rready_any (cdAt L i) w
      clear hc hlt' hM
      generalize cdAt L i = x at *
      obtain ⟨xa, xc, xv, xl, xo⟩ := x
      simp only at e0 e1 e2 e3 e4
      have hW1 : Hid (Below W0.heap.size W0 (wr.alloc (.cells #[.string xa, .bool xc, .bool xv, .bool xl, .bool xo] 25))) := hB.out.alloc hB.out.size _
      have hO1 : Hid (OwnS (wr.alloc (.cells #[.string xa, .bool xc, .bool xv, .bool xl, .bool xo] 25)) W0.heap.size v M) := hO.out.kept ((Below.refl _ wr).alloc (Nat.le_refl _) _)
      have gB := blk_new wr #[.string xa, .bool xc, .bool xv, .bool xl, .bool xo] 25
      have hne : Hid (v.ownBlock ≠ some wr.heap.size) := fun e => by have := (hO.out.lt _ e).2; omega
      have GB := Lib.hid gB
      have g0 := gB.get 0
      have g1 := gB.get 1
      have g2 := gB.get 2
      have g3 := gB.get 3
      have g4 := gB.get 4
      simp only [List.getElem?_toArray, List.getElem?_cons_zero, List.getElem?_cons_succ] at g0 g1 g2 g3 g4
      clear hB hO gB
      go_wp2_with fail
      generalize wr.alloc (.cells #[.string xa, .bool xc, .bool xv, .bool xl, .bool xo] 25) = W1 at *
      generalize wr.heap.size = q0 at *
      clear e0 e1 e2 e3 e4
      cases xc with
      | false =>
        have RK := RK.out.1
        obtain ⟨q1, q2⟩ := RK rfl
        rw [q1] at HM
        rw [q2] at HN
        have C := fun w => (C w).mono (fun e w' (h : e = .returned (.bool (ready _)) ∧ Below w.heap.size w w') => (⟨h.1.trans (by rw [q1]), h.2⟩ : e = .returned (.bool false) ∧ Below w.heap.size w w'))
        clear q1 q2 RK
        have HM := Lib.hid (HM.out.trans (if_neg Bool.false_ne_true))
        rcases Int.lt_or_le wv 4 with hgt | hgt
        · have HN := Lib.hid (HN.out.trans (if_pos hgt))
          refine (C _).mono ?_; rintro e w1 ⟨rfl, hb⟩
          have gb1 := GB.out.below hb GB.out.lt
          have hW2 := Lib.hid (hW1.out.trans (hb.mono hW1.out.size))
          have hO2 := Lib.hid (hO1.out.kept hb)
          have GB1 := Lib.hid gb1
          have g0 := gb1.get 0
          have g1 := gb1.get 1
          have g2 := gb1.get 2
          have g3 := gb1.get 3
          have g4 := gb1.get 4
          simp only [List.getElem?_toArray, List.getElem?_cons_zero, List.getElem?_cons_succ] at g0 g1 g2 g3 g4
          clear hb hW1 hO1 C GB gb1
          go_wp2_with fail
          go_roundg (gk - 1)
          case measure => have := hg.out; omega
          case rel => exact ⟨i + 1, v, 4, rfl, rfl, by go_num, by omega, by have := hg.out; show _ = _; omega, HN.out.symm, by rw [HM.out]; exact hO2.out, hW2.out⟩
        · have hng : ¬ wv < 4 := by omega
          have HN := Lib.hid (HN.out.trans (if_neg hng))
          refine (C _).mono ?_; rintro e w1 ⟨rfl, hb⟩
          have gb1 := GB.out.below hb GB.out.lt
          have hW2 := Lib.hid (hW1.out.trans (hb.mono hW1.out.size))
          have hO2 := Lib.hid (hO1.out.kept hb)
          have GB1 := Lib.hid gb1
          have g0 := gb1.get 0
          have g1 := gb1.get 1
          have g2 := gb1.get 2
          have g3 := gb1.get 3
          have g4 := gb1.get 4
          simp only [List.getElem?_toArray, List.getElem?_cons_zero, List.getElem?_cons_succ] at g0 g1 g2 g3 g4
          clear hb hW1 hO1 C GB gb1
          go_wp2_with fail
          go_roundg (gk - 1)
          case measure => have := hg.out; omega
          case rel => exact ⟨i + 1, v, wv, rfl, rfl, by go_num, by omega, by have := hg.out; show _ = _; omega, HN.out.symm, by rw [HM.out]; exact hO2.out, hW2.out⟩
      | true =>
        cases xv with
        | false =>
          have RK := RK.out.2.1
          obtain ⟨q1, q2⟩ := RK rfl rfl
          rw [q1] at HM
          rw [q2] at HN
          have C := fun w => (C w).mono (fun e w' (h : e = .returned (.bool (ready _)) ∧ Below w.heap.size w w') => (⟨h.1.trans (by rw [q1]), h.2⟩ : e = .returned (.bool false) ∧ Below w.heap.size w w'))
          clear q1 q2 RK
          have HM := Lib.hid (HM.out.trans (if_neg Bool.false_ne_true))
          rcases Int.lt_or_le wv 5 with hgt | hgt
          · have HN := Lib.hid (HN.out.trans (if_pos hgt))
            refine (C _).mono ?_; rintro e w1 ⟨rfl, hb⟩
            have gb1 := GB.out.below hb GB.out.lt
            have hW2 := Lib.hid (hW1.out.trans (hb.mono hW1.out.size))
            have hO2 := Lib.hid (hO1.out.kept hb)
            have GB1 := Lib.hid gb1
            have g0 := gb1.get 0
            have g1 := gb1.get 1
            have g2 := gb1.get 2
            have g3 := gb1.get 3
            have g4 := gb1.get 4
            simp only [List.getElem?_toArray, List.getElem?_cons_zero, List.getElem?_cons_succ] at g0 g1 g2 g3 g4
            clear hb hW1 hO1 C GB gb1
            go_wp2_with fail
            go_roundg (gk - 1)
            case measure => have := hg.out; omega
            case rel => exact ⟨i + 1, v, 5, rfl, rfl, by go_num, by omega, by have := hg.out; show _ = _; omega, HN.out.symm, by rw [HM.out]; exact hO2.out, hW2.out⟩
          · have hng : ¬ wv < 5 := by omega
            have HN := Lib.hid (HN.out.trans (if_neg hng))
            refine (C _).mono ?_; rintro e w1 ⟨rfl, hb⟩
            have gb1 := GB.out.below hb GB.out.lt
            have hW2 := Lib.hid (hW1.out.trans (hb.mono hW1.out.size))
            have hO2 := Lib.hid (hO1.out.kept hb)
            have GB1 := Lib.hid gb1
            have g0 := gb1.get 0
            have g1 := gb1.get 1
            have g2 := gb1.get 2
            have g3 := gb1.get 3
            have g4 := gb1.get 4
            simp only [List.getElem?_toArray, List.getElem?_cons_zero, List.getElem?_cons_succ] at g0 g1 g2 g3 g4
            clear hb hW1 hO1 C GB gb1
            go_wp2_with fail
            go_roundg (gk - 1)
            case measure => have := hg.out; omega
            case rel => exact ⟨i + 1, v, wv, rfl, rfl, by go_num, by omega, by have := hg.out; show _ = _; omega, HN.out.symm, by rw [HM.out]; exact hO2.out, hW2.out⟩
        | true =>
          cases xl with
          | false =>
            have RK := RK.out.2.2.1
            obtain ⟨q1, q2⟩ := RK rfl rfl rfl
            rw [q1] at HM
            rw [q2] at HN
            have C := fun w => (C w).mono (fun e w' (h : e = .returned (.bool (ready _)) ∧ Below w.heap.size w w') => (⟨h.1.trans (by rw [q1]), h.2⟩ : e = .returned (.bool false) ∧ Below w.heap.size w w'))
            clear q1 q2 RK
            have HM := Lib.hid (HM.out.trans (if_neg Bool.false_ne_true))
            rcases Int.lt_or_le wv 6 with hgt | hgt
            · have HN := Lib.hid (HN.out.trans (if_pos hgt))
              refine (C _).mono ?_; rintro e w1 ⟨rfl, hb⟩
              have gb1 := GB.out.below hb GB.out.lt
              have hW2 := Lib.hid (hW1.out.trans (hb.mono hW1.out.size))
              have hO2 := Lib.hid (hO1.out.kept hb)
              have GB1 := Lib.hid gb1
              have g0 := gb1.get 0
              have g1 := gb1.get 1
              have g2 := gb1.get 2
              have g3 := gb1.get 3
              have g4 := gb1.get 4
              simp only [List.getElem?_toArray, List.getElem?_cons_zero, List.getElem?_cons_succ] at g0 g1 g2 g3 g4
              clear hb hW1 hO1 C GB gb1
              go_wp2_with fail
              go_roundg (gk - 1)
              case measure => have := hg.out; omega
              case rel => exact ⟨i + 1, v, 6, rfl, rfl, by go_num, by omega, by have := hg.out; show _ = _; omega, HN.out.symm, by rw [HM.out]; exact hO2.out, hW2.out⟩
            · have hng : ¬ wv < 6 := by omega
              have HN := Lib.hid (HN.out.trans (if_neg hng))
              refine (C _).mono ?_; rintro e w1 ⟨rfl, hb⟩
              have gb1 := GB.out.below hb GB.out.lt
              have hW2 := Lib.hid (hW1.out.trans (hb.mono hW1.out.size))
              have hO2 := Lib.hid (hO1.out.kept hb)
              have GB1 := Lib.hid gb1
              have g0 := gb1.get 0
              have g1 := gb1.get 1
              have g2 := gb1.get 2
              have g3 := gb1.get 3
              have g4 := gb1.get 4
              simp only [List.getElem?_toArray, List.getElem?_cons_zero, List.getElem?_cons_succ] at g0 g1 g2 g3 g4
              clear hb hW1 hO1 C GB gb1
              go_wp2_with fail
              go_roundg (gk - 1)
              case measure => have := hg.out; omega
              case rel => exact ⟨i + 1, v, wv, rfl, rfl, by go_num, by omega, by have := hg.out; show _ = _; omega, HN.out.symm, by rw [HM.out]; exact hO2.out, hW2.out⟩
          | true =>
            cases xo with
            | false =>
              have RK := RK.out.2.2.2.1
              obtain ⟨q1, q2⟩ := RK rfl rfl rfl rfl
              rw [q1] at HM
              rw [q2] at HN
              have C := fun w => (C w).mono (fun e w' (h : e = .returned (.bool (ready _)) ∧ Below w.heap.size w w') => (⟨h.1.trans (by rw [q1]), h.2⟩ : e = .returned (.bool true) ∧ Below w.heap.size w w'))
              clear q1 q2 RK
              have HM := Lib.hid (HM.out.trans (if_pos rfl))
              rcases Int.lt_or_le wv 6 with hgt | hgt
              · have HN := Lib.hid (HN.out.trans (if_pos hgt))
                refine (C _).mono ?_; rintro e w1 ⟨rfl, hb⟩
                have gb1 := GB.out.below hb GB.out.lt
                have hW2 := Lib.hid (hW1.out.trans (hb.mono hW1.out.size))
                have hO2 := Lib.hid (hO1.out.kept hb)
                have GB1 := Lib.hid gb1
                have g0 := gb1.get 0
                have g1 := gb1.get 1
                have g2 := gb1.get 2
                have g3 := gb1.get 3
                have g4 := gb1.get 4
                simp only [List.getElem?_toArray, List.getElem?_cons_zero, List.getElem?_cons_succ] at g0 g1 g2 g3 g4
                clear hb hW1 hO1 C GB gb1
                go_wp2_with (at_builtin; refine push_str hi1 hz1 hs1 hy1 hO2.out xa (by omega) hW2.out.size rfl _ _ rfl rfl _ rfl rfl ?_)
                intro v' w2 hp
                have HP := Lib.hid (And.intro hp.own (hW2.out.trans hp.below))
                have gb2 : Blk w2 q0 _ _ := (hp.others q0 GB1.out.lt hne.out).trans GB1.out
                have g0 := gb2.get 0
                have g1 := gb2.get 1
                have g2 := gb2.get 2
                have g3 := gb2.get 3
                have g4 := gb2.get 4
                simp only [List.getElem?_toArray, List.getElem?_cons_zero, List.getElem?_cons_succ] at g0 g1 g2 g3 g4
                clear hp gb2
                go_wp2_with fail
                go_roundg (gk - 1)
                case measure => have := hg.out; omega
                case rel => exact ⟨i + 1, v', 6, rfl, rfl, by go_num, by omega, by have := hg.out; show _ = _; omega, HN.out.symm, by rw [HM.out]; exact HP.out.1, HP.out.2⟩
              · have hng : ¬ wv < 6 := by omega
                have HN := Lib.hid (HN.out.trans (if_neg hng))
                refine (C _).mono ?_; rintro e w1 ⟨rfl, hb⟩
                have gb1 := GB.out.below hb GB.out.lt
                have hW2 := Lib.hid (hW1.out.trans (hb.mono hW1.out.size))
                have hO2 := Lib.hid (hO1.out.kept hb)
                have GB1 := Lib.hid gb1
                have g0 := gb1.get 0
                have g1 := gb1.get 1
                have g2 := gb1.get 2
                have g3 := gb1.get 3
                have g4 := gb1.get 4
                simp only [List.getElem?_toArray, List.getElem?_cons_zero, List.getElem?_cons_succ] at g0 g1 g2 g3 g4
                clear hb hW1 hO1 C GB gb1
                go_wp2_with (at_builtin; refine push_str hi1 hz1 hs1 hy1 hO2.out xa (by omega) hW2.out.size rfl _ _ rfl rfl _ rfl rfl ?_)
                intro v' w2 hp
                have HP := Lib.hid (And.intro hp.own (hW2.out.trans hp.below))
                have gb2 : Blk w2 q0 _ _ := (hp.others q0 GB1.out.lt hne.out).trans GB1.out
                have g0 := gb2.get 0
                have g1 := gb2.get 1
                have g2 := gb2.get 2
                have g3 := gb2.get 3
                have g4 := gb2.get 4
                simp only [List.getElem?_toArray, List.getElem?_cons_zero, List.getElem?_cons_succ] at g0 g1 g2 g3 g4
                clear hp gb2
                go_wp2_with fail
                go_roundg (gk - 1)
                case measure => have := hg.out; omega
                case rel => exact ⟨i + 1, v', wv, rfl, rfl, by go_num, by omega, by have := hg.out; show _ = _; omega, HN.out.symm, by rw [HM.out]; exact HP.out.1, HP.out.2⟩
            | true =>
              have RK := RK.out.2.2.2.2
              obtain ⟨q1, q2⟩ := RK rfl rfl rfl rfl
              rw [q1] at HM
              rw [q2] at HN
              have C := fun w => (C w).mono (fun e w' (h : e = .returned (.bool (ready _)) ∧ Below w.heap.size w w') => (⟨h.1.trans (by rw [q1]), h.2⟩ : e = .returned (.bool false) ∧ Below w.heap.size w w'))
              clear q1 q2 RK
              have HM := Lib.hid (HM.out.trans (if_neg Bool.false_ne_true))
              rcases Int.lt_or_le wv 7 with hgt | hgt
              · have HN := Lib.hid (HN.out.trans (if_pos hgt))
                refine (C _).mono ?_; rintro e w1 ⟨rfl, hb⟩
                have gb1 := GB.out.below hb GB.out.lt
                have hW2 := Lib.hid (hW1.out.trans (hb.mono hW1.out.size))
                have hO2 := Lib.hid (hO1.out.kept hb)
                have GB1 := Lib.hid gb1
                have g0 := gb1.get 0
                have g1 := gb1.get 1
                have g2 := gb1.get 2
                have g3 := gb1.get 3
                have g4 := gb1.get 4
                simp only [List.getElem?_toArray, List.getElem?_cons_zero, List.getElem?_cons_succ] at g0 g1 g2 g3 g4
                clear hb hW1 hO1 C GB gb1
                go_wp2_with fail
                go_roundg (gk - 1)
                case measure => have := hg.out; omega
                case rel => exact ⟨i + 1, v, 7, rfl, rfl, by go_num, by omega, by have := hg.out; show _ = _; omega, HN.out.symm, by rw [HM.out]; exact hO2.out, hW2.out⟩
              · have hng : ¬ wv < 7 := by omega
                have HN := Lib.hid (HN.out.trans (if_neg hng))
                refine (C _).mono ?_; rintro e w1 ⟨rfl, hb⟩
                have gb1 := GB.out.below hb GB.out.lt
                have hW2 := Lib.hid (hW1.out.trans (hb.mono hW1.out.size))
                have hO2 := Lib.hid (hO1.out.kept hb)
                have GB1 := Lib.hid gb1
                have g0 := gb1.get 0
                have g1 := gb1.get 1
                have g2 := gb1.get 2
                have g3 := gb1.get 3
                have g4 := gb1.get 4
                simp only [List.getElem?_toArray, List.getElem?_cons_zero, List.getElem?_cons_succ] at g0 g1 g2 g3 g4
                clear hb hW1 hO1 C GB gb1
                go_wp2_with fail
                go_roundg (gk - 1)
                case measure => have := hg.out; omega
                case rel => exact ⟨i + 1, v, wv, rfl, rfl, by go_num, by omega, by have := hg.out; show _ = _; omega, HN.out.symm, by rw [HM.out]; exact hO2.out, hW2.out⟩
    · obtain rfl : i = n := by omega
      have y1 : ¬ (i : Int) < (i : Int) := by omega
      rw [List.take_of_length_le (by rw [hnn.out]; exact Nat.le_refl _)] at hO hwv
      have r1 := HR.out.below hB.out HR.out.lt
      have d0 := r1.get 0
      have d1 := r1.get 1
      have d2 := r1.get 2
      have f0 := r1.frz 0
      have f1 := r1.frz 1
      have f2 := r1.frz 2
      simp only [List.getElem?_toArray, List.getElem?_cons_zero, List.getElem?_cons_succ] at d0 d1 d2
      have hBB := Lib.hid (HB0.out.trans (hB.out.mono HB0.out.size))
      have hO3 := hO.out.reads
      have D := fun hne v (h : StrsIn wr v (appsOf L)) => of_any (appsOf L) hne v wr h
      obtain ⟨va, vc, rfl⟩ := hO3.form
      obtain ⟨m, hm⟩ : ∃ m, Hid ((appsOf L).length = m) := ⟨_, rfl⟩
      have hO4 := Lib.hid hO3
      have HR1 := Lib.hid r1
      rw [hm.out] at hO4 ⊢
      by_cases hz : m = 0
      · have hz2 : appsOf L = [] := List.length_eq_zero_iff.1 (hm.out.trans hz)
        have hXX : Hid (X = ⟨2, [], wv⟩) := by
          show _ = _
          rw [← hX.out, hwv.out]
          exact if_pos hz2
        have y2 : ¬ (0 : Int) < (m : Int) := by omega
        have HB1 := Lib.hid hBB.out
        clear D hO hO3 hz hz2 hB HI r1
        go_wp2_with fail
        exact bodyPost_ret (v := .agg #[.int .i64 2, .slice none 0 0, .int .i64 wv]) (by simp [results, Tryd.results13, go_sem, d0, d1, d2]) rfl ⟨_, rfl, ⟨_, by rw [hXX.out], by rw [hXX.out]; exact strsIn_nil _⟩, below_res HB1.out _ _ _⟩
      · have hne : appsOf L ≠ [] := fun e => hz (by rw [← hm.out, e]; rfl)
        have hXX : Hid (X = opened (appsOf L)) := hX.out.symm.trans (if_neg hne)
        have y2 : (0 : Int) < (m : Int) := by omega
        have E := D hne _ hO4.out
        clear D hO hO3 hz hB HI r1 hO4 hne
        go_wp2_with fail
        refine E.mono ?_; rintro e w1 ⟨x, rfl, ⟨s, rfl, hs⟩, hb⟩
        obtain ⟨sa, sc, rfl⟩ := hs.form
        have r1 := HR1.out.below hb HR1.out.lt
        have hB1 := hBB.out.trans (hb.mono hBB.out.size)
        have d0 := r1.get 0
        have d1 := r1.get 1
        have d2 := r1.get 2
        have f0 := r1.frz 0
        have f1 := r1.frz 1
        have f2 := r1.frz 2
        simp only [List.getElem?_toArray, List.getElem?_cons_zero, List.getElem?_cons_succ] at d0 d1 d2
        rw [← hXX.out] at hs ⊢
        have H1 := Lib.hid (And.intro hs (And.intro r1 hB1))
        clear hs r1 hB1 hb E
        go_wp2_with fail
        exact bodyPost_ret (v := .agg #[.int .i64 X.kind, .slice sa X.apps.length sc, .int .i64 X.why]) (by simp [results, Tryd.results13, go_sem, d0, d1, d2]) rfl ⟨_, rfl, ⟨_, rfl, H1.out.1.res H1.out.2.1⟩, below_res H1.out.2.2 _ _ _⟩
end Go.Proofs.YtmgdkdohadaknaaDoor.pick
