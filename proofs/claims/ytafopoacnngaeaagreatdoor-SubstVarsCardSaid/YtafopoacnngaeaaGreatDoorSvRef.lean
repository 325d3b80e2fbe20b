/- The document's own answer of what is wrong with a variable. -/
import Derived.Test.YtafopoacnngaeaaGreatDoorSvCheck
import Derived.OwnWalk
set_option linter.unusedSimpArgs false
set_option linter.unusedVariables false
namespace Go.Proofs.YtafopoacnngaeaaGreatDoor.subst
open Go.RowKit Go.Proofs.YtafopoacnngaeaaGreatDoor.errs Go.Proofs.YtafopoacnngaeaaGreatDoor.rows Go.Proofs.YtafopoacnngaeaaGreatDoor.utf Go.Proofs.YtafopoacnngaeaaGreatDoor.ref Go.Proofs.YtafopoacnngaeaaGreatDoor.text Go.Proofs.YtafopoacnngaeaaGreatDoor.umath Go.Proofs.YtafopoacnngaeaaGreatDoor.glref Go.Proofs.YtafopoacnngaeaaGreatDoor.gmath Go.Proofs.YtafopoacnngaeaaGreatDoor.chars Go.Proofs.YtafopoacnngaeaaGreatDoor.marks

theorem rchars_any (s : ByteArray) (hz : s.size ≤ 1000000) : ∃ bad : Int, Hid (decide (0 ≤ bad) = !(firstBad s).isNone) ∧ Hid (∀ (v : Value) (W : World), Sl W v s → Calls Tryz.prog 35 #[v] W fun e w' => ∃ v', e = .returned (.tuple #[v', .int .i64 bad]) ∧ Below W.heap.size W w') := by
  cases hf : firstBad s with
  | none =>
    refine ⟨-1, (show decide ((0 : Int) ≤ -1) = false by decide), fun v W h => ?_⟩
    have C := chars_ref s v W h hz
    rw [hf] at C
    have C : Calls Tryz.prog 35 #[v] W fun e w' => ∃ v', e = .returned (.tuple #[v', .int .i64 (-1)]) ∧ Aside (w'.ownsRow W.heap.size 3 1 v' (all s).length (ints (all s)) ∧ Below W.heap.size W w') := C
    exact C.mono fun e w' ⟨v', h1, h2⟩ => ⟨v', h1, h2.out.2⟩
  | some i =>
    refine ⟨i, decide_eq_true (by omega), fun v W h => ?_⟩
    have C := chars_ref s v W h hz
    rw [hf] at C
    exact C

set_option maxRecDepth 100000 in
set_option maxHeartbeats 16000000 in
theorem rcheckVar_any (a : Option Addr) (n cap : Nat) (nm : ByteArray) (vs : List ByteArray) (w : World) (h : VIn w a n cap nm vs) :
    Calls Tryz.prog 16 #[.agg #[.string nm, .slice a n cap]] w fun e w' => e = .returned (.tuple #[.int .i64 (varOf nm vs).1, .int .i64 (varOf nm vs).2.1, .int .i64 (varOf nm vs).2.2]) ∧ Below w.heap.size w w' := by
  obtain ⟨W0, HW0⟩ : ∃ W, Hid (w.alloc (.cells #[.string nm, .slice a n cap] 36) = W) := ⟨_, rfl⟩
  have HB : Hid (Below w.heap.size w W0 ∧ W0.heap[w.heap.size]? = some (.cells #[.string nm, .slice a n cap] 36 (0, 0)) ∧ W0.heap.size = w.heap.size + 1) := by
    rw [← HW0.out]
    exact ⟨(Below.refl _ _).alloc (Nat.le_refl _) _, heap_alloc_new w _, by simp⟩
  have H0 : Hid (VIn W0 a n cap nm vs) := h.below HB.out.1
  have c0 : W0.cell? ⟨w.heap.size, 0, none⟩ = some (.string nm) := cell_of_heap HB.out.2.1 rfl
  have c1 : W0.cell? ⟨w.heap.size, 1, none⟩ = some (.slice a n cap) := cell_of_heap HB.out.2.1 rfl
  have hz := h.name
  have HN : Hid (n = vs.length) := h.vals.at.1
  have h2 := h.vals.at.2.1
  have h3 := h.vals.at.2.2.1
  have CC : Hid (∀ V, Keeps W0 V → V.cell? ⟨w.heap.size, 0, none⟩ = some (.string nm) ∧ V.cell? ⟨w.heap.size, 1, none⟩ = some (.slice a n cap)) := fun V hV =>
    ⟨(hV.cell (p := ⟨w.heap.size, 0, none⟩) (lt_of_cell c0)).trans c0, (hV.cell (p := ⟨w.heap.size, 1, none⟩) (lt_of_cell c1)).trans c1⟩
  have RC : Calls Tryz.prog 19 #[.string nm] W0 fun e w' => e = .returned (.tuple #[.string (rcChars (rcIdx nm.data.toList)), .int .i64 (rcSize (rcIdx nm.data.toList))]) ∧ Below W0.heap.size W0 w' := rclass_any nm.data.toList W0
  have own := rcSize_own nm.data.toList
  obtain ⟨bad, hbad, CH⟩ := rchars_any nm hz
  have D36 : ∀ V, Calls Tryz.prog 37 #[.string nm, .int .u8 36] V fun e w' => e = .returned (.bool (nm.data.toList.contains 36)) ∧ V = w' := fun V => rhas_any nm 36 hz V
  have D40 : ∀ V, Calls Tryz.prog 37 #[.string nm, .int .u8 40] V fun e w' => e = .returned (.bool (nm.data.toList.contains 40)) ∧ V = w' := fun V => rhas_any nm 40 hz V
  have D41 : ∀ V, Calls Tryz.prog 37 #[.string nm, .int .u8 41] V fun e w' => e = .returned (.bool (nm.data.toList.contains 41)) ∧ V = w' := fun V => rhas_any nm 41 hz V
  clear h
  obtain ⟨res, hres⟩ : ∃ res, Hid (varOf nm vs = res) := ⟨_, rfl⟩
  rw [hres.out]
  have hres := hres.out
  unfold varOf at hres
  rw [badName_is, ← own, ← hbad.out] at hres
  have hres := Lib.hid hres
  clear own hbad
  generalize rcSize (rcIdx nm.data.toList) = sz at *
  generalize rcChars (rcIdx nm.data.toList) = ch at *
  generalize nm.data.toList.contains 36 = q5 at *
  generalize nm.data.toList.contains 40 = q6 at *
  generalize nm.data.toList.contains 41 = q7 at *
  go_enter Tryz.func16, Tryz.ntmps16
  go_wp2_with fail
  rw [HW0.out]
  go_wp2_with fail
  refine RC.mono ?_; rintro e w1 ⟨rfl, hb⟩
  have K1 : Hid (Keeps W0 w1) := hb
  obtain ⟨d0, d1⟩ := CC.out w1 hb
  clear hb RC c0 c1
  have BN := bytes_new nm hz w1
  obtain ⟨v, W, hcv, hsl⟩ := BN
  have C := CH.out v W hsl.out.1
  have KW : Hid (Keeps W0 W) := Keeps.step K1.out hsl.out.2
  have hcv := hcv.out
  clear hsl CH
  go_wp2_with fail
  refine C.mono ?_; rintro e w2 ⟨v', rfl, hb⟩
  have K2 : Hid (Keeps W0 w2) := Keeps.step KW.out hb
  clear hb C hcv d0 d1 KW K1
  obtain ⟨d0, d1⟩ := CC.out w2 K2.out
  have KE : Hid (Below w.heap.size w w2) := HB.out.1.trans (K2.out.mono HB.out.1.size)
  by_cases p1 : nm.size = 0
  · skip
    have x1 : ((nm.size : Int) == 0) = true := by rw [beq_iff_eq]; omega
    have HR : Hid (res = (30, 0, 0)) := by
      have e := hres.out
      show _ = _
      rw [← e]
      simp [p1]
    clear hres p1
    go_wp2_with fail
    go_ret3
    exact ⟨by rw [HR.out]; rfl, KE.out⟩
  · skip
    have x1 : ((nm.size : Int) == 0) = false := by rw [beq_eq_false_iff_ne]; omega
    by_cases p2 : 64 < nm.size
    · skip
      have x2 : (64 : Int) < (nm.size : Int) := by omega
      have HR : Hid (res = (30, 0, 0)) := by
        have e := hres.out
        show _ = _
        rw [← e]
        simp [p1, p2]
      clear hres p1 p2
      go_wp2_with fail
      go_ret3
      exact ⟨by rw [HR.out]; rfl, KE.out⟩
    · skip
      have x2 : (nm.size : Int) ≤ 64 := by omega
      by_cases p3 : 0 < sz
      · skip
        have x3 : 0 < sz := by omega
        have HR : Hid (res = (30, 0, 0)) := by
          have e := hres.out
          show _ = _
          rw [← e]
          simp [p1, p2, p3]
        clear hres p1 p2 p3
        go_wp2_with fail
        go_ret3
        exact ⟨by rw [HR.out]; rfl, KE.out⟩
      · skip
        have x3 : sz ≤ 0 := by omega
        by_cases p4 : 0 ≤ bad
        · skip
          have x4 : 0 ≤ bad := by omega
          have HR : Hid (res = (30, 0, 0)) := by
            have e := hres.out
            show _ = _
            rw [← e]
            simp [p1, p2, p3, p4]
          clear hres p1 p2 p3 p4
          go_wp2_with fail
          go_ret3
          exact ⟨by rw [HR.out]; rfl, KE.out⟩
        · skip
          have x4 : bad < 0 := by omega
          cases q5 with
          | true =>
            have HR : Hid (res = (30, 0, 0)) := by
              have e := hres.out
              show _ = _
              rw [← e]
              simp [p1, p2, p3, p4]
            clear hres p1 p2 p3 p4
            go_wp2_with fail
            refine (D36 _).mono ?_; rintro e w3 ⟨rfl, rfl⟩
            go_wp2_with fail
            go_ret3
            exact ⟨by rw [HR.out]; rfl, KE.out⟩
          | false =>
            cases q6 with
            | true =>
              have HR : Hid (res = (30, 0, 0)) := by
                have e := hres.out
                show _ = _
                rw [← e]
                simp [p1, p2, p3, p4]
              clear hres p1 p2 p3 p4
              go_wp2_with fail
              refine (D36 _).mono ?_; rintro e w3 ⟨rfl, rfl⟩
              go_wp2_with fail
              refine (D40 _).mono ?_; rintro e w3 ⟨rfl, rfl⟩
              go_wp2_with fail
              go_ret3
              exact ⟨by rw [HR.out]; rfl, KE.out⟩
            | false =>
              cases q7 with
              | true =>
                have HR : Hid (res = (30, 0, 0)) := by
                  have e := hres.out
                  show _ = _
                  rw [← e]
                  simp [p1, p2, p3, p4]
                clear hres p1 p2 p3 p4
                go_wp2_with fail
                refine (D36 _).mono ?_; rintro e w3 ⟨rfl, rfl⟩
                go_wp2_with fail
                refine (D40 _).mono ?_; rintro e w3 ⟨rfl, rfl⟩
                go_wp2_with fail
                refine (D41 _).mono ?_; rintro e w3 ⟨rfl, rfl⟩
                go_wp2_with fail
                go_ret3
                exact ⟨by rw [HR.out]; rfl, KE.out⟩
              | false =>
                have hres2 : Hid ((if 256 < vs.length then (15, 256, 0) else varFrom 0 vs) = res) := by
                  have e := hres.out
                  show _ = _
                  rw [← e]
                  simp [p1, p2, p3, p4]
                clear hres p1 p2 p3 p4
                go_wp2_with fail
                refine (D36 _).mono ?_; rintro e w3 ⟨rfl, rfl⟩
                go_wp2_with fail
                refine (D40 _).mono ?_; rintro e w3 ⟨rfl, rfl⟩
                go_wp2_with fail
                refine (D41 _).mono ?_; rintro e w3 ⟨rfl, rfl⟩
                clear D36 D40 D41
                by_cases hbig : 256 < vs.length
                · have z0 : (256 : Int) < (n : Int) := by have := HN.out; omega
                  have HR : Hid (res = (15, 256, 0)) := by
                    have e := hres2.out
                    rw [if_pos hbig] at e
                    exact e.symm
                  clear hbig hres2
                  go_wp2_with fail
                  go_ret3
                  exact ⟨by rw [HR.out]; rfl, KE.out⟩
                · have z0 : (n : Int) ≤ 256 := by have := HN.out; omega
                  have hres3 : Hid (varFrom 0 vs = res) := by
                    have e := hres2.out
                    rw [if_neg hbig] at e
                    exact e
                  clear hbig hres2
                  go_wp2_with fail
                  go_loopg [9] n (fun g t wr => ∃ k : Nat, t = .int .i64 k ∧ g + k = n ∧ Hid (varFrom k (vs.drop k) = res ∧ Keeps W0 wr))
                  case atStart => exact ⟨0, rfl, rfl, hres3.out, K2.out⟩
                  case round =>
                    clear K2 hres3 d0 d1 KE
                    obtain ⟨k, rfl, hg, hA⟩ := hrel
                    obtain ⟨d0, d1⟩ := CC.out wr hA.out.2
                    have y0 : (0 : Int) ≤ (k : Int) := by omega
                    by_cases hlt : k < n
                    · have y1 : (k : Int) < (n : Int) := by omega
                      have HV := H0.out.below hA.out.2
                      obtain ⟨b, o, rfl, f0⟩ := HV.vals.at.2.2.2 k hlt
                      have hk : k < vs.length := by rw [← HN.out]; exact hlt
                      have hsz : (vs.getD k ⟨#[]⟩).size ≤ 1000000 := HV.small _ (by rw [List.getD_eq_getElem?_getD, List.getElem?_eq_getElem hk]; exact List.getElem_mem _)
                      have hd := hA.out.1
                      rw [drop_val vs k hk] at hd
                      unfold varFrom at hd
                      have D : Calls Tryz.prog 37 #[.string (vs.getD k ⟨#[]⟩), .int .u8 36] wr fun e w' => e = .returned (.bool ((vs.getD k ⟨#[]⟩).data.toList.contains 36)) ∧ wr = w' := rhas_any (vs.getD k ⟨#[]⟩) 36 hsz wr
                      have C := rcheck_any (vs.getD k ⟨#[]⟩) hsz wr
                      have KE : Hid (Below w.heap.size w wr) := HB.out.1.trans (hA.out.2.mono HB.out.1.size)
                      clear HV
                      generalize vs.getD k ⟨#[]⟩ = s at *
                      cases hq : s.data.toList.contains 36 with
                      | true =>
                        rw [hq] at hd D
                        rw [if_pos rfl] at hd
                        have HR : Hid (res = (11, (k : Int), 0)) := hd.symm
                        clear hq hd C
                        go_wp2_with fail
                        refine D.mono ?_; rintro e w4 ⟨rfl, rfl⟩
                        clear D
                        go_wp2_with fail
                        go_ret3
                        exact ⟨by rw [HR.out]; rfl, KE.out⟩
                      | false =>
                        rw [hq] at hd D
                        rw [if_neg (by decide)] at hd
                        cases hok : okP s with
                        | true =>
                          rw [hok, if_pos rfl] at hd
                          have ND : Hid (varFrom (k + 1) (vs.drop (k + 1)) = res) := hd
                          have hc0 : (checkOf s).1 = 0 := of_decide_eq_true hok
                          rw [hc0] at C
                          clear hq hd hok hc0
                          go_wp2_with fail
                          refine D.mono ?_; rintro e w4 ⟨rfl, rfl⟩
                          clear D
                          go_wp2_with fail
                          refine C.mono ?_; rintro e w5 ⟨rfl, hb⟩
                          have K5 : Hid (varFrom (k + 1) (vs.drop (k + 1)) = res ∧ Keeps W0 w5) := ⟨ND.out, Keeps.step hA.out.2 hb⟩
                          clear hb C f0 d0 d1
                          go_wp2_with fail
                          go_roundg (gk - 1)
                          case measure => omega
                          case rel => exact ⟨k + 1, by go_num, by omega, K5⟩
                        | false =>
                          rw [hok, if_neg (by decide)] at hd
                          have HR : Hid (res = (11, (k : Int), (checkOf s).1)) := hd.symm
                          have hc0 : ((checkOf s).1 != 0) = true := by rw [bne_iff_ne]; exact of_decide_eq_false hok
                          clear hq hd hok
                          generalize (checkOf s).1 = cn at *
                          generalize (checkOf s).2 = cp at *
                          go_wp2_with fail
                          refine D.mono ?_; rintro e w4 ⟨rfl, rfl⟩
                          clear D
                          go_wp2_with fail
                          refine C.mono ?_; rintro e w5 ⟨rfl, hb⟩
                          have K5 : Hid (Below w.heap.size w w5) := HB.out.1.trans ((Keeps.step hA.out.2 hb).mono HB.out.1.size)
                          clear hb C f0 d0 d1
                          go_wp2_with fail
                          go_ret3
                          exact ⟨by rw [HR.out]; rfl, K5.out⟩
                    · obtain rfl : k = n := by omega
                      have y1 : ¬ (k : Int) < (k : Int) := by omega
                      have HR : Hid (res = (0, 0, 0)) := by
                        have hd := hA.out.1
                        rw [List.drop_eq_nil_of_le (by rw [← HN.out]; exact Nat.le_refl _)] at hd
                        exact hd.symm
                      have KE : Hid (Below w.heap.size w wr) := HB.out.1.trans (hA.out.2.mono HB.out.1.size)
                      clear hA
                      go_wp2_with fail
                      go_ret3
                      exact ⟨by rw [HR.out]; rfl, KE.out⟩
end Go.Proofs.YtafopoacnngaeaaGreatDoor.subst
