/- The law on variables: for any input it returns true. -/
import Derived.Test.YtafopoacnngaeaaGreatDoorSvRef
set_option linter.unusedSimpArgs false
set_option linter.unusedVariables false
namespace Go.Proofs.YtafopoacnngaeaaGreatDoor.substVars
open Go.RowKit Go.Proofs.YtafopoacnngaeaaGreatDoor.errs Go.Proofs.YtafopoacnngaeaaGreatDoor.rows Go.Proofs.YtafopoacnngaeaaGreatDoor.utf Go.Proofs.YtafopoacnngaeaaGreatDoor.glref Go.Proofs.YtafopoacnngaeaaGreatDoor.gmath Go.Proofs.YtafopoacnngaeaaGreatDoor.chars Go.Proofs.YtafopoacnngaeaaGreatDoor.subst Go.Proofs.YtafopoacnngaeaaGreatDoor.marks

theorem varFrom_zero : ∀ (l : List ByteArray) (i : Nat), (varFrom i l).1 = 0 → varFrom i l = (0, 0, 0)
  | [], _, _ => rfl
  | s :: r, i, h => by
    unfold varFrom at h ⊢
    by_cases h1 : s.data.toList.contains 36 = true
    · rw [if_pos h1] at h; exact absurd h (show (11 : Int) ≠ 0 by decide)
    · rw [if_neg h1] at h ⊢
      by_cases h2 : okP s = true
      · rw [if_pos h2] at h ⊢; exact varFrom_zero r (i + 1) h
      · rw [if_neg h2] at h; exact absurd h (show (11 : Int) ≠ 0 by decide)
theorem varOf_zero (nm : ByteArray) (vs : List ByteArray) (h : (varOf nm vs).1 = 0) : varOf nm vs = (0, 0, 0) := by
  unfold varOf at h ⊢
  by_cases h1 : badName nm = true
  · rw [if_pos h1] at h; exact absurd h (show (30 : Int) ≠ 0 by decide)
  · rw [if_neg h1] at h ⊢
    by_cases h2 : 256 < vs.length
    · rw [if_pos h2] at h; exact absurd h (show (15 : Int) ≠ 0 by decide)
    · rw [if_neg h2] at h ⊢; exact varFrom_zero vs 0 h

set_option maxRecDepth 100000 in
set_option maxHeartbeats 16000000 in
theorem law (nm : ByteArray) (a : Option Addr) (n cap : Nat) (vs : List ByteArray) (w : World) (hS : Seat w ∧ Laid w) (hv : StrsIn w (.slice a n cap) vs) :
    Calls Tryz.prog 4 #[.agg #[.string nm, .slice a n cap]] w fun e w' => e = .returned (.bool true) ∧ Below w.heap.size w w' := by
  obtain ⟨W0, HW0⟩ : ∃ W, Hid (w.alloc (.cells #[.string nm, .slice a n cap] 36) = W) := ⟨_, rfl⟩
  have HB : Hid (Below w.heap.size w W0 ∧ W0.heap[w.heap.size]? = some (.cells #[.string nm, .slice a n cap] 36 (0, 0)) ∧ W0.heap.size = w.heap.size + 1) := by
    rw [← HW0.out]
    exact ⟨(Below.refl _ _).alloc (Nat.le_refl _) _, heap_alloc_new w _, by simp⟩
  have c0 : W0.cell? ⟨w.heap.size, 0, none⟩ = some (.string nm) := cell_of_heap HB.out.2.1 rfl
  have c1 : W0.cell? ⟨w.heap.size, 1, none⟩ = some (.slice a n cap) := cell_of_heap HB.out.2.1 rfl
  have HS : Hid (∀ V, Keeps W0 V → Seat V ∧ Laid V ∧ StrsIn V (.slice a n cap) vs) := fun V hV => ⟨(hS.1.below HB.out.1).below hV, (hS.2.below HB.out.1 (Nat.le_refl _)).below hV (Nat.le_refl _), (hv.below HB.out.1).below hV⟩
  have HN : Hid (n = vs.length) := hv.at.1
  have h2 := hv.at.2.1
  have h3 := hv.at.2.2.1
  have CC : Hid (∀ V, Keeps W0 V → V.cell? ⟨w.heap.size, 0, none⟩ = some (.string nm) ∧ V.cell? ⟨w.heap.size, 1, none⟩ = some (.slice a n cap)) := fun V hV =>
    ⟨(hV.cell (p := ⟨w.heap.size, 0, none⟩) (lt_of_cell c0)).trans c0, (hV.cell (p := ⟨w.heap.size, 1, none⟩) (lt_of_cell c1)).trans c1⟩
  have BE : Hid (∀ V, Keeps W0 V → Below w.heap.size w V) := fun V hV => HB.out.1.trans (hV.mono HB.out.1.size)
  have S := speaks_any W0 (HS.out W0 (Below.refl _ _)).1
  clear hS hv
  go_enter Tryz.func4, Tryz.ntmps4
  go_wp2_with fail
  rw [HW0.out]
  go_wp2_with fail
  refine S.mono ?_; rintro e w1 ⟨rfl, hb⟩
  have K1 : Hid (Keeps W0 w1) := hb
  clear hb S c0 c1
  obtain ⟨d0, d1⟩ := CC.out w1 K1.out
  by_cases hb1 : 300 < n
  · have z1 : (300 : Int) < (n : Int) := by omega
    clear hb1
    go_wp2_with fail
    go_ret
    exact ⟨rfl, BE.out _ K1.out⟩
  have z1 : (n : Int) ≤ 300 := by omega
  clear hb1
  by_cases hb2 : 300 < nm.size
  · have z2 : (300 : Int) < (nm.size : Int) := by omega
    clear hb2
    go_wp2_with fail
    go_ret
    exact ⟨rfl, BE.out _ K1.out⟩
  have z2 : (nm.size : Int) ≤ 300 := by omega
  clear hb2
  go_wp2_with fail
  clear d0 d1
  go_loopg [26] n (fun g t wr => ∃ k : Nat, t = .int .i64 k ∧ g + k = n ∧ Hid ((∀ v ∈ vs.take k, v.size ≤ 1000000) ∧ Keeps W0 wr))
  case atStart => exact ⟨0, rfl, rfl, (fun v hv => by cases hv), K1.out⟩
  case round =>
    clear K1
    obtain ⟨k, rfl, hg, hA⟩ := hrel
    have y0 : (0 : Int) ≤ (k : Int) := by omega
    by_cases hlt : k < n
    · have y1 : (k : Int) < (n : Int) := by omega
      obtain ⟨b, o, rfl, f0⟩ := (HS.out wr hA.out.2).2.2.at.2.2.2 k hlt
      have hk : k < vs.length := by rw [← HN.out]; exact hlt
      have TK : Hid (vs.take (k + 1) = vs.take k ++ [vs.getD k ⟨#[]⟩]) := take_val vs k hk
      generalize vs.getD k ⟨#[]⟩ = v at *
      by_cases hvz : 1200 < v.size
      · have z3 : (1200 : Int) < (v.size : Int) := by omega
        have KE := Lib.hid (BE.out wr hA.out.2)
        clear hvz hA
        go_wp2_with fail
        go_ret
        exact ⟨rfl, KE.out⟩
      · have z3 : (v.size : Int) ≤ 1200 := by omega
        have NX : Hid ((∀ v ∈ vs.take (k + 1), v.size ≤ 1000000) ∧ Keeps W0 wr) := by
          refine ⟨fun u hu => ?_, hA.out.2⟩
          rw [TK.out] at hu
          rcases List.mem_append.1 hu with h | h
          · exact hA.out.1 u h
          · rw [List.mem_singleton.1 h]; omega
        clear hvz hA
        go_wp2_with fail
        go_roundg (gk - 1)
        case measure => omega
        case rel => exact ⟨k + 1, by go_num, by omega, NX⟩
    · obtain rfl : k = n := by omega
      have y1 : ¬ (k : Int) < (k : Int) := by omega
      have K1 : Hid (Keeps W0 wr) := hA.out.2
      have SM : Hid (∀ v ∈ vs, v.size ≤ 1000000) := by
        have := hA.out.1
        rwa [List.take_of_length_le (by rw [← HN.out]; exact Nat.le_refl _)] at this
      have VI : Hid (∀ V, Keeps W0 V → VIn V a k cap nm vs) := fun V hV => ⟨(HS.out V hV).1, (HS.out V hV).2.2, SM.out, by omega⟩
      have R := rcheckVar_any a k cap nm vs wr (VI.out wr K1.out)
      obtain ⟨d0, d1⟩ := CC.out wr K1.out
      have VZ := Lib.hid (varOf_zero nm vs)
      have own := rcSize_own nm.data.toList
      have CK : Hid (∀ V, Keeps W0 V → Calls Tryz.prog 17 #[.agg #[.string nm, .slice a k cap]] V fun e w' => VarOut (varOf nm vs) V e w') := fun V hV => checkVar_any a k cap nm vs V (VI.out V hV)
      have RC : Hid (∀ V, Calls Tryz.prog 19 #[.string nm] V fun e w' => e = .returned (.tuple #[.string (rcChars (rcIdx nm.data.toList)), .int .i64 (rcSize (rcIdx nm.data.toList))]) ∧ Below V.heap.size V w') := fun V => rclass_any nm.data.toList V
      have OW : Hid (∀ V, Keeps W0 V → Calls Tryz.prog 20 #[.string nm] V fun e w'' => e = .returned (.bool (isOwn nm.data.toList)) ∧ Below V.heap.size V w'') := fun V hV => own_any nm.data.toList V (HS.out V hV).1.2.2
      clear hA
      generalize varOf nm vs = r at *
      generalize rcSize (rcIdx nm.data.toList) = sz at *
      generalize rcChars (rcIdx nm.data.toList) = ch at *
      generalize isOwn nm.data.toList = q at *
      have own := Lib.hid own
      obtain ⟨rk, ra, rf⟩ := r
      go_wp2_with fail
      refine R.mono ?_; rintro e w2 ⟨rfl, hb⟩
      have K2 : Hid (Keeps W0 w2) := Keeps.step K1.out hb
      clear hb R d0 d1 K1
      obtain ⟨d0, d1⟩ := CC.out w2 K2.out
      have C := CK.out w2 K2.out
      by_cases hr : rk = 0
      · obtain ⟨rfl, rfl, rfl⟩ : rk = 0 ∧ ra = 0 ∧ rf = 0 := by
          have := VZ.out hr
          simpa using this
        have C : Calls Tryz.prog 17 #[.agg #[.string nm, .slice a k cap]] w2 fun e w' => e = .returned .nilIface ∧ Below w2.heap.size w2 w' := C.mono fun e w' q => by
          unfold VarOut at q
          rwa [if_pos rfl] at q
        clear hr VZ
        go_wp2_with fail
        refine C.mono ?_; rintro e w3 ⟨rfl, hb⟩
        have K3 : Hid (Keeps W0 w3) := Keeps.step K2.out hb
        clear hb C d0 d1 K2
        obtain ⟨d0, d1⟩ := CC.out w3 K3.out
        go_wp2_with fail
        refine (kind_nil _).mono ?_; rintro e w4 ⟨rfl, rfl⟩
        go_wp2_with fail
        refine (RC.out _).mono ?_; rintro e w4 ⟨rfl, hb⟩
        have K4 : Hid (Keeps W0 w4) := Keeps.step K3.out hb
        clear hb d0 d1 K3
        obtain ⟨d0, d1⟩ := CC.out w4 K4.out
        go_wp2_with fail
        refine (OW.out _ K4.out).mono ?_; rintro e w5 ⟨rfl, hb⟩
        have K5 : Hid (Keeps W0 w5) := Keeps.step K4.out hb
        clear hb d0 d1 K4
        go_wp2_with fail
        go_ret
        exact ⟨by rw [← own.out]; simp, BE.out _ K5.out⟩
      · have C : Calls Tryz.prog 17 #[.agg #[.string nm, .slice a k cap]] w2 fun e w' => FailedOf (rk, ra, rf) w2 e w' := C.mono fun e w' q => by
          unfold VarOut at q
          rwa [if_neg hr] at q
        clear VZ hr
        go_wp2_with fail
        refine C.mono ?_; rintro e w3 ⟨b, inner, rfl, hq⟩
        have K3 : Hid (Keeps W0 w3) := Keeps.step K2.out hq.out.2.2
        have L3 : Hid (∀ V, Keeps w3 V → Laid V) := fun V hV => (HS.out V (Keeps.step K3.out hV)).2.1
        have KK : ∀ V, Keeps w3 V → Calls Tryz.prog 9 #[.iface 58 (.pointer (some ⟨b, 0, none⟩))] V fun e w' => e = .returned (.int .i64 rk) ∧ Keeps w3 w' := fun V hV => kind_keeps (L3.out w3 (Below.refl _ _)) hq.out.1 hV
        have KA : ∀ V, Keeps w3 V → Calls Tryz.prog 10 #[.iface 58 (.pointer (some ⟨b, 0, none⟩))] V fun e w' => e = .returned (.int .i64 ra) ∧ Keeps w3 w' := fun V hV => at_keeps (L3.out w3 (Below.refl _ _)) hq.out.1 hV
        have KK := Lib.hid KK
        have KA := Lib.hid KA
        have KH : Hid (rf = 0 ∨ ∀ V, Keeps w3 V → Calls Tryz.prog 18 #[.iface 58 (.pointer (some ⟨b, 0, none⟩)), .int .i64 rf] V fun e w' => e = .returned (.bool true) ∧ V = w') := by
          obtain ⟨ks, hc, ht⟩ := hq.out.2.1
          rcases ht with h | h
          · exact .inl h
          · exact .inr fun V hV => has_keeps hc h hV
        clear hq C d0 d1 K2
        have bk : (rk != rk) = false := by simp
        have ba : (ra != ra) = false := by simp
        go_wp2_with fail
        refine (KK.out _ (Below.refl _ _)).mono ?_; rintro e w4 ⟨rfl, k4⟩
        have K4 := Lib.hid k4
        clear k4
        go_wp2_with fail
        refine (KA.out _ K4.out).mono ?_; rintro e w5 ⟨rfl, k5⟩
        have K5 := Lib.hid k5
        clear k5
        have K6 : Hid (Keeps W0 w5) := Keeps.step K3.out K5.out
        obtain ⟨d0, d1⟩ := CC.out w5 K6.out
        rcases KH.out with rfl | KH2
        · have b0 : ((0 : Int) != 0) = false := by simp
          go_wp2_with fail
          refine (RC.out _).mono ?_; rintro e w6 ⟨rfl, hb⟩
          have K7 : Hid (Keeps W0 w6) := Keeps.step K6.out hb
          clear hb d0 d1 K6
          obtain ⟨d0, d1⟩ := CC.out w6 K7.out
          go_wp2_with fail
          refine (OW.out _ K7.out).mono ?_; rintro e w7 ⟨rfl, hb⟩
          have K8 : Hid (Keeps W0 w7) := Keeps.step K7.out hb
          clear hb d0 d1 K7
          go_wp2_with fail
          go_ret
          exact ⟨by rw [← own.out]; simp, BE.out _ K8.out⟩
        · have H := KH2 w5 K5.out
          clear KH2 KH
          by_cases hf : rf = 0
          · subst hf
            go_wp2_with fail
            refine (RC.out _).mono ?_; rintro e w6 ⟨rfl, hb⟩
            have K7 : Hid (Keeps W0 w6) := Keeps.step K6.out hb
            clear hb d0 d1 K6
            obtain ⟨d0, d1⟩ := CC.out w6 K7.out
            go_wp2_with fail
            refine (OW.out _ K7.out).mono ?_; rintro e w7 ⟨rfl, hb⟩
            have K8 : Hid (Keeps W0 w7) := Keeps.step K7.out hb
            clear hb d0 d1 K7
            go_wp2_with fail
            go_ret
            exact ⟨by rw [← own.out]; simp, BE.out _ K8.out⟩
          · have bf : (rf != 0) = true := by rw [bne_iff_ne]; exact hf
            clear hf
            go_wp2_with fail
            refine H.mono ?_; rintro e w6 ⟨rfl, rfl⟩
            clear H
            go_wp2_with fail
            refine (RC.out _).mono ?_; rintro e w6 ⟨rfl, hb⟩
            have K7 : Hid (Keeps W0 w6) := Keeps.step K6.out hb
            clear hb d0 d1 K6
            obtain ⟨d0, d1⟩ := CC.out w6 K7.out
            go_wp2_with fail
            refine (OW.out _ K7.out).mono ?_; rintro e w7 ⟨rfl, hb⟩
            have K8 : Hid (Keeps W0 w7) := Keeps.step K7.out hb
            clear hb d0 d1 K7
            go_wp2_with fail
            go_ret
            exact ⟨by rw [← own.out]; simp, BE.out _ K8.out⟩
end Go.Proofs.YtafopoacnngaeaaGreatDoor.substVars
