/- The walk of the law on addresses' texts: for any address and any text it returns true, and what was there stays. -/
import Derived.Test.YtahlkhaehlemcaaGreatDoorQtStrict
import Derived.Test.YtahlkhaehlemcaaGreatDoorQtRtext
import Derived.Test.YtahlkhaehlemcaaGreatDoorQdSpeaks
import Derived.Test.YtahlkhaehlemcaaGreatDoorQdNumeric
set_option linter.unusedSimpArgs false
set_option linter.unusedVariables false
namespace Go.Proofs.YtahlkhaehlemcaaGreatDoor.quadTexts
open Go.RowKit Go.Proofs.YtahlkhaehlemcaaGreatDoor.errs Go.Proofs.YtahlkhaehlemcaaGreatDoor.qparse Go.Proofs.YtahlkhaehlemcaaGreatDoor.qlaid Go.Proofs.YtahlkhaehlemcaaGreatDoor.rq Go.Proofs.YtahlkhaehlemcaaGreatDoor.qread Go.Proofs.YtahlkhaehlemcaaGreatDoor.qtext

theorem read_kind {t : ByteArray} {k a : Nat} (h : readPart t = .bad k a) : k ≠ 0 := by
  unfold readPart at h
  split at h
  · simp only [Got.bad.injEq] at h; omega
  · split at h
    · cases h
    · simp only [Got.bad.injEq] at h; omega
theorem badFrom_kind {l : List ByteArray} {k a : Nat} : ∀ g j, badFrom l g j = some (k, a) → k ≠ 0
  | 0, _, h => by cases h
  | g + 1, j, h => by
    cases hr : readPart (l.getD j ⟨#[]⟩) with
    | bad k' a' =>
      rw [bad_hit hr] at h
      simp only [Option.some.injEq, Prod.mk.injEq] at h
      obtain ⟨rfl, -⟩ := h
      exact read_kind hr
    | num n =>
      rw [bad_on hr] at h
      exact badFrom_kind g (j + 1) h
theorem parse_kind {s : ByteArray} {k a : Nat} (h : parseOf s = .bad k a) : k ≠ 0 := by
  unfold parseOf at h
  cases hc : qfields.cut (unended s) with
  | many x =>
    rw [hc] at h
    simp only [Out.bad.injEq] at h
    omega
  | parts l =>
    rw [hc] at h
    have h : outOf l (badFrom l l.length 0) = .bad k a := h
    cases hb : badFrom l l.length 0 with
    | some x =>
      obtain ⟨k', a'⟩ := x
      rw [hb] at h
      have h : Out.bad k' a' = .bad k a := h
      simp only [Out.bad.injEq] at h
      obtain ⟨rfl, -⟩ := h
      exact badFrom_kind _ _ hb
    | none =>
      rw [hb] at h
      have h : laidOf (partsOf l) (l.length - 1) = .bad k a := h
      unfold laidOf at h
      cases ho : over (partsOf l) (l.length - 1) 0 with
      | some x =>
        rw [ho] at h
        have h : Out.bad 16 x = .bad k a := h
        simp only [Out.bad.injEq] at h
        omega
      | none =>
        rw [ho] at h
        have h : (if 256 ^ (4 - (l.length - 1)) ≤ (partsOf l (l.length - 1)).2 then Out.bad 16 (partsOf l (l.length - 1)).1 else .good (pick (partsOf l) (l.length - 1) 0) (pick (partsOf l) (l.length - 1) 1) (pick (partsOf l) (l.length - 1) 2) (pick (partsOf l) (l.length - 1) 3)) = .bad k a := h
        split at h
        · simp only [Out.bad.injEq] at h; omega
        · cases h

set_option maxRecDepth 100000 in
set_option maxHeartbeats 8000000 in
theorem law (a b c d : Nat) (s : ByteArray) (w : World) (h4 : a < 256 ∧ b < 256 ∧ c < 256 ∧ d < 256) (_w0 : s.size ≤ maxLen) (hL : Lay w ∧ Pow w) :
    Calls Tryz.prog 4 #[.agg #[.int .u8 a, .int .u8 b, .int .u8 c, .int .u8 d], .string s] w fun e w' => e = .returned (.bool true) ∧ Below w.heap.size w w' := by
  obtain ⟨ha, hb, hc, hd⟩ := h4
  have HL : Aside (∀ w', Keeps w w' → Lay w' ∧ Pow w') := fun w' hk => ⟨hL.1.below hk, hL.2.below hk (Nat.le_refl _)⟩
  have k0 : Keeps w (w.alloc (.cells #[.int .u8 a, .int .u8 b, .int .u8 c, .int .u8 d] 24)) := keeps_new _ _
  have S := speaks_any _ (HL.out _ k0).1
  have hz := text_short ha hb hc hd
  have T := fun w hp => text_any a b c d ha hb hc hd w hp
  have P1 := fun w hv => parse_good (parse_text ha hb hc hd) w (by omega) hv
  have S1 := fun w hv hp => strict_good (parse_text ha hb hc hd) rfl w (by omega) hv hp
  have RT := fun w => rtext_any a b c d ha hb hc hd w
  have N1 := fun w => numeric_any (textOf a b c d) (by omega) w
  rw [numeric_text a b c hd] at N1
  obtain ⟨t, ht⟩ : ∃ t, Hid (textOf a b c d = t) := ⟨_, rfl⟩
  rw [ht.out] at hz T P1 S1 RT N1
  obtain ⟨ai, hai⟩ : ∃ ai : Int, Hid ((a : Int) = ai) := ⟨_, rfl⟩
  obtain ⟨bi, hbi⟩ : ∃ bi : Int, Hid ((b : Int) = bi) := ⟨_, rfl⟩
  obtain ⟨ci, hci⟩ : ∃ ci : Int, Hid ((c : Int) = ci) := ⟨_, rfl⟩
  obtain ⟨di, hdi⟩ : ∃ di : Int, Hid ((d : Int) = di) := ⟨_, rfl⟩
  rw [hai.out, hbi.out, hci.out, hdi.out] at T P1 S1 RT S k0 ⊢
  have EQ := qeq.run_same
  unfold qeq.same at EQ
  clear hL _w0 ha hb hc hd hai hbi hci hdi ht
  by_cases hbig : 600 < s.size
  · have x1 : (600 : Int) < (s.size : Int) := by omega
    have K0 := Lib.hid k0
    clear T P1 S1 RT N1 k0
    go_enter Tryz.func4, Tryz.ntmps4
    go_wp2_with fail
    refine S.mono ?_; rintro e w1 ⟨rfl, k1⟩
    have K1 : Aside (Below w.heap.size w w1) := K0.out.step k1
    clear k1 K0 S
    go_wp2_with fail
    go_ret
    exact ⟨rfl, K1.out⟩
  have x1 : (s.size : Int) ≤ 600 := by omega
  have f0 : Four (w.alloc (.cells #[.int .u8 ai, .int .u8 bi, .int .u8 ci, .int .u8 di] 24)) w.heap.size (.int .u8 ai) (.int .u8 bi) (.int .u8 ci) (.int .u8 di) := four_new _ _ _ _ _ _
  have Q0 : Aside (Keeps w (w.alloc (.cells #[.int .u8 ai, .int .u8 bi, .int .u8 ci, .int .u8 di] 24)) ∧ Four (w.alloc (.cells #[.int .u8 ai, .int .u8 bi, .int .u8 ci, .int .u8 di] 24)) w.heap.size (.int .u8 ai) (.int .u8 bi) (.int .u8 ci) (.int .u8 di)) := ⟨k0, f0⟩
  clear k0 f0
  go_enter Tryz.func4, Tryz.ntmps4
  go_wp2_with fail
  refine S.mono ?_; rintro e w1 ⟨rfl, hb1⟩
  have Q1 : Aside (Keeps w w1 ∧ Four w1 w.heap.size (.int .u8 ai) (.int .u8 bi) (.int .u8 ci) (.int .u8 di)) := ⟨Q0.out.1.step hb1, Q0.out.2.below hb1⟩
  clear Q0 S hb1
  obtain ⟨ab, hab⟩ : ∃ ab, Hid (w.heap.size = ab) := ⟨_, rfl⟩
  rw [hab.out] at Q1 ⊢
  obtain ⟨c0, c1, c2, c3⟩ := Q1.out.2
  have C1 := T w1 (HL.out w1 Q1.out.1).2
  go_wp2_with fail
  refine C1.mono ?_; rintro e w2 ⟨rfl, hb2⟩
  have Q2 : Aside (Keeps w w2 ∧ Four w2 ab (.int .u8 ai) (.int .u8 bi) (.int .u8 ci) (.int .u8 di)) := ⟨Q1.out.1.step hb2, Q1.out.2.below hb2⟩
  clear c0 c1 c2 c3 C1 T Q1 hb2
  have C2 := P1 w2 (HL.out w2 Q2.out.1).1.2
  go_wp2_with fail
  refine C2.mono ?_; rintro e w3 ⟨rfl, hb3⟩
  have k3 : Keeps w2 (w3.alloc (.cells #[.int .u8 ai, .int .u8 bi, .int .u8 ci, .int .u8 di] 24)) := Keeps.step hb3 (keeps_new _ _)
  have Q3 : Aside (Keeps w (w3.alloc (.cells #[.int .u8 ai, .int .u8 bi, .int .u8 ci, .int .u8 di] 24)) ∧ Four (w3.alloc (.cells #[.int .u8 ai, .int .u8 bi, .int .u8 ci, .int .u8 di] 24)) ab (.int .u8 ai) (.int .u8 bi) (.int .u8 ci) (.int .u8 di) ∧ Four (w3.alloc (.cells #[.int .u8 ai, .int .u8 bi, .int .u8 ci, .int .u8 di] 24)) w3.heap.size (.int .u8 ai) (.int .u8 bi) (.int .u8 ci) (.int .u8 di)) := ⟨Q2.out.1.step k3, Q2.out.2.below k3, four_new _ _ _ _ _ _⟩
  clear C2 P1 Q2 hb3 k3
  go_wp2_with fail
  obtain ⟨W3, hW3⟩ : ∃ W3, W3 = w3.alloc (.cells #[.int .u8 ai, .int .u8 bi, .int .u8 ci, .int .u8 di] 24) := ⟨_, rfl⟩
  rw [← hW3] at Q3 ⊢
  generalize w3.heap.size = xb at Q3 ⊢
  have C3 := S1 W3 (HL.out W3 Q3.out.1).1.2 (HL.out W3 Q3.out.1).2
  clear hW3
  refine C3.mono ?_; rintro e w4 ⟨rfl, hb4⟩
  have k4 : Keeps W3 (w4.alloc (.cells #[.int .u8 ai, .int .u8 bi, .int .u8 ci, .int .u8 di] 24)) := Keeps.step hb4 (keeps_new _ _)
  obtain ⟨W4, hW4⟩ : ∃ W4, W4 = w4.alloc (.cells #[.int .u8 ai, .int .u8 bi, .int .u8 ci, .int .u8 di] 24) := ⟨_, rfl⟩
  have Q4 : Aside (Keeps w W4 ∧ Four W4 ab (.int .u8 ai) (.int .u8 bi) (.int .u8 ci) (.int .u8 di) ∧ Four W4 xb (.int .u8 ai) (.int .u8 bi) (.int .u8 ci) (.int .u8 di) ∧ Four W4 w4.heap.size (.int .u8 ai) (.int .u8 bi) (.int .u8 ci) (.int .u8 di)) := by
    rw [hW4]
    exact ⟨Q3.out.1.step k4, Q3.out.2.1.below k4, Q3.out.2.2.below k4, four_new _ _ _ _ _ _⟩
  clear C3 S1 Q3 hb4 k4
  obtain ⟨c0, c1, c2, c3⟩ := Q4.out.2.1
  rw [hW4] at c0 c1 c2 c3
  go_wp2_with fail
  clear c0 c1 c2 c3
  rw [← hW4]
  generalize w4.heap.size = yb at Q4 ⊢
  clear hW4
  refine (RT W4).mono ?_; rintro e w5 ⟨rfl, hb5⟩
  have Q5 : Aside (Keeps w w5 ∧ Four w5 ab (.int .u8 ai) (.int .u8 bi) (.int .u8 ci) (.int .u8 di) ∧ Four w5 xb (.int .u8 ai) (.int .u8 bi) (.int .u8 ci) (.int .u8 di) ∧ Four w5 yb (.int .u8 ai) (.int .u8 bi) (.int .u8 ci) (.int .u8 di)) := ⟨Q4.out.1.step hb5, Q4.out.2.1.below hb5, Q4.out.2.2.1.below hb5, Q4.out.2.2.2.below hb5⟩
  clear Q4 hb5 RT
  obtain ⟨c0, c1, c2, c3⟩ := Q5.out.2.1
  obtain ⟨d0, d1, d2, d3⟩ := Q5.out.2.2.1
  obtain ⟨e0, e1, e2, e3⟩ := Q5.out.2.2.2
  go_wp2_with fail
  refine (N1 w5).mono ?_; rintro e w6 ⟨rfl, hb6⟩
  have Q6 : Aside (Keeps w w6) := Q5.out.1.step hb6
  clear Q5 hb6 N1 c0 c1 c2 c3 d0 d1 d2 d3 e0 e1 e2 e3
  go_wp2_with fail
  have R := fun w => rparse_any s w (by omega)
  have hv6 := (HL.out w6 Q6.out).1.2
  have hp6 := (HL.out w6 Q6.out).2
  cases ho : parseOf s with
  | bad k a =>
    rw [ho] at R
    have R : ∀ w, Calls Tryz.prog 7 #[.string s] w fun e w' => e = .returned (.tuple #[.agg #[.int .u8 0, .int .u8 0, .int .u8 0, .int .u8 0], .int .i64 k, .int .i64 a]) ∧ Below w.heap.size w w' := R
    have C := strict_bad ho w6 (by omega) hv6
    have hk : ((k : Int) == 0) = false := beq_eq_false_iff_ne.2 (by have := parse_kind ho; omega)
    clear ho hv6 hp6
    refine C.mono ?_; rintro e w7 ⟨bb, rfl, hF, hb7⟩
    have k7 : Keeps w6 (w7.alloc (.cells #[.int .u8 0, .int .u8 0, .int .u8 0, .int .u8 0] 24)) := Keeps.step hb7 (keeps_new _ _)
    go_wp2_with fail
    obtain ⟨W7, hW7⟩ : ∃ W7, W7 = w7.alloc (.cells #[.int .u8 0, .int .u8 0, .int .u8 0, .int .u8 0] 24) := ⟨_, rfl⟩
    have Q7 : Aside (Keeps w W7 ∧ Four W7 w7.heap.size (.int .u8 0) (.int .u8 0) (.int .u8 0) (.int .u8 0) ∧ FaultAt W7 (.iface 56 (.pointer (some ⟨bb, 0, none⟩))) 11 0 .nilIface) := by rw [hW7]; exact ⟨Q6.out.step k7, four_new _ _ _ _ _ _, hF.out.below (keeps_new _ _) (Nat.le_refl _)⟩
    rw [← hW7]
    generalize w7.heap.size = zb at Q7 ⊢
    clear hW7 k7 hb7 Q6 C hF
    refine (R W7).mono ?_; rintro e w8 ⟨rfl, hb8⟩
    have k8 : Keeps W7 (w8.alloc (.cells #[.int .u8 0, .int .u8 0, .int .u8 0, .int .u8 0] 24)) := Keeps.step hb8 (keeps_new _ _)
    obtain ⟨W8, hW8⟩ : ∃ W8, W8 = w8.alloc (.cells #[.int .u8 0, .int .u8 0, .int .u8 0, .int .u8 0] 24) := ⟨_, rfl⟩
    rw [← hW8] at k8
    have Q8 : Aside (Keeps w W8 ∧ Four W8 zb (.int .u8 0) (.int .u8 0) (.int .u8 0) (.int .u8 0) ∧ FaultAt W8 (.iface 56 (.pointer (some ⟨bb, 0, none⟩))) 11 0 .nilIface) := ⟨Q7.out.1.step k8, Q7.out.2.1.below k8, Q7.out.2.2.below k8 (Nat.le_refl _)⟩
    clear R k8 hb8 Q7
    go_wp2_with fail
    rw [← hW8]
    clear hW8
    generalize w8.heap.size = wb
    have A1 : ∀ W', Keeps W8 W' → Calls Tryz.prog 8 #[.iface 56 (.pointer (some ⟨bb, 0, none⟩))] W' fun e w' => e = .returned (.int .i64 11) ∧ Keeps W8 w' := fun W' h => kind_keeps (HL.out _ Q8.out.1).1.1 Q8.out.2.2 h
    have A2 : ∀ W', Keeps W8 W' → Calls Tryz.prog 9 #[.iface 56 (.pointer (some ⟨bb, 0, none⟩))] W' fun e w' => e = .returned (.int .i64 0) ∧ Keeps W8 w' := fun W' h => at_keeps (HL.out _ Q8.out.1).1.1 Q8.out.2.2 h
    refine (A1 W8 (Keeps.refl _)).mono ?_; rintro e wk ⟨rfl, hbk⟩
    clear A1
    go_wp2_with fail
    refine (A2 wk hbk).mono ?_; rintro e wa ⟨rfl, hba⟩
    have Qa : Aside (Keeps w wa ∧ Four wa zb (.int .u8 0) (.int .u8 0) (.int .u8 0) (.int .u8 0)) := ⟨Q8.out.1.step hba, Q8.out.2.1.below hba⟩
    obtain ⟨c0, c1, c2, c3⟩ := Qa.out.2
    clear A2 hbk hba Q8
    go_wp2_with fail
    go_ret
    exact ⟨rfl, Qa.out.1⟩
  | good x y u v =>
    rw [ho] at R
    have R : ∀ w, Calls Tryz.prog 7 #[.string s] w fun e w' => e = .returned (.tuple #[.agg #[.int .u8 x, .int .u8 y, .int .u8 u, .int .u8 v], .int .i64 0, .int .i64 0]) ∧ Below w.heap.size w w' := R
    obtain ⟨hx, hy, hu, hv⟩ := parse_small ho
    have RT := fun w => rtext_any x y u v hx hy hu hv w
    by_cases hs : textOf x y u v = s
    · have C := strict_good ho hs w6 (by omega) hv6 hp6
      rw [hs] at RT
      obtain ⟨xi, hxi⟩ : ∃ xi : Int, Hid ((x : Int) = xi) := ⟨_, rfl⟩
      obtain ⟨yi, hyi⟩ : ∃ yi : Int, Hid ((y : Int) = yi) := ⟨_, rfl⟩
      obtain ⟨ui, hui⟩ : ∃ ui : Int, Hid ((u : Int) = ui) := ⟨_, rfl⟩
      obtain ⟨vi, hvi⟩ : ∃ vi : Int, Hid ((v : Int) = vi) := ⟨_, rfl⟩
      rw [hxi.out, hyi.out, hui.out, hvi.out] at R RT C
      clear ho hv6 hp6 hx hy hu hv hs hxi hyi hui hvi
      refine C.mono ?_; rintro e w7 ⟨rfl, hb7⟩
      have k7 : Keeps w6 (w7.alloc (.cells #[.int .u8 xi, .int .u8 yi, .int .u8 ui, .int .u8 vi] 24)) := Keeps.step hb7 (keeps_new _ _)
      go_wp2_with fail
      obtain ⟨W7, hW7⟩ : ∃ W7, W7 = w7.alloc (.cells #[.int .u8 xi, .int .u8 yi, .int .u8 ui, .int .u8 vi] 24) := ⟨_, rfl⟩
      have Q7 : Aside (Keeps w W7 ∧ Four W7 w7.heap.size (.int .u8 xi) (.int .u8 yi) (.int .u8 ui) (.int .u8 vi)) := by rw [hW7]; exact ⟨Q6.out.step k7, four_new _ _ _ _ _ _⟩
      rw [← hW7]
      generalize w7.heap.size = zb at Q7 ⊢
      clear hW7 k7 hb7 Q6 C
      refine (R W7).mono ?_; rintro e w8 ⟨rfl, hb8⟩
      have k8 : Keeps W7 (w8.alloc (.cells #[.int .u8 xi, .int .u8 yi, .int .u8 ui, .int .u8 vi] 24)) := Keeps.step hb8 (keeps_new _ _)
      obtain ⟨W8, hW8⟩ : ∃ W8, W8 = w8.alloc (.cells #[.int .u8 xi, .int .u8 yi, .int .u8 ui, .int .u8 vi] 24) := ⟨_, rfl⟩
      rw [← hW8] at k8
      have Q8 : Aside (Keeps w W8 ∧ Four W8 zb (.int .u8 xi) (.int .u8 yi) (.int .u8 ui) (.int .u8 vi) ∧ Four W8 w8.heap.size (.int .u8 xi) (.int .u8 yi) (.int .u8 ui) (.int .u8 vi)) := ⟨Q7.out.1.step k8, Q7.out.2.below k8, by rw [hW8]; exact four_new _ _ _ _ _ _⟩
      obtain ⟨c0, c1, c2, c3⟩ := Q8.out.2.2
      rw [hW8] at c0 c1 c2 c3
      clear R k8 hb8 Q7
      go_wp2_with fail
      rw [← hW8]
      clear c0 c1 c2 c3
      generalize w8.heap.size = wb at Q8 ⊢
      clear hW8
      refine (RT W8).mono ?_; rintro e w9 ⟨rfl, hb9⟩
      have Q9 : Aside (Keeps w w9 ∧ Four w9 zb (.int .u8 xi) (.int .u8 yi) (.int .u8 ui) (.int .u8 vi) ∧ Four w9 wb (.int .u8 xi) (.int .u8 yi) (.int .u8 ui) (.int .u8 vi)) := ⟨Q8.out.1.step hb9, Q8.out.2.1.below hb9, Q8.out.2.2.below hb9⟩
      obtain ⟨c0, c1, c2, c3⟩ := Q9.out.2.1
      obtain ⟨d0, d1, d2, d3⟩ := Q9.out.2.2
      clear Q8 hb9 RT
      go_wp2_with fail
      go_ret
      exact ⟨rfl, Q9.out.1⟩
    · have C := strict_other ho hs w6 (by omega) hv6 hp6
      obtain ⟨t2, ht2⟩ : ∃ t2, Hid (textOf x y u v = t2) := ⟨_, rfl⟩
      rw [ht2.out] at RT hs
      have hne : (t2.toList == s.toList) = false := by rw [ByteArray.toList_eq, ByteArray.toList_eq]; exact beq_eq_false_iff_ne.2 fun e => hs (list_ext e)
      obtain ⟨xi, hxi⟩ : ∃ xi : Int, Hid ((x : Int) = xi) := ⟨_, rfl⟩
      obtain ⟨yi, hyi⟩ : ∃ yi : Int, Hid ((y : Int) = yi) := ⟨_, rfl⟩
      obtain ⟨ui, hui⟩ : ∃ ui : Int, Hid ((u : Int) = ui) := ⟨_, rfl⟩
      obtain ⟨vi, hvi⟩ : ∃ vi : Int, Hid ((v : Int) = vi) := ⟨_, rfl⟩
      rw [hxi.out, hyi.out, hui.out, hvi.out] at R RT
      clear ho hv6 hp6 hx hy hu hv hs hxi hyi hui hvi ht2
      refine C.mono ?_; rintro e w7 ⟨bb, rfl, hF, hb7⟩
      have k7 : Keeps w6 (w7.alloc (.cells #[.int .u8 0, .int .u8 0, .int .u8 0, .int .u8 0] 24)) := Keeps.step hb7 (keeps_new _ _)
      go_wp2_with fail
      obtain ⟨W7, hW7⟩ : ∃ W7, W7 = w7.alloc (.cells #[.int .u8 0, .int .u8 0, .int .u8 0, .int .u8 0] 24) := ⟨_, rfl⟩
      have Q7 : Aside (Keeps w W7 ∧ Four W7 w7.heap.size (.int .u8 0) (.int .u8 0) (.int .u8 0) (.int .u8 0) ∧ FaultAt W7 (.iface 56 (.pointer (some ⟨bb, 0, none⟩))) 11 0 .nilIface) := by rw [hW7]; exact ⟨Q6.out.step k7, four_new _ _ _ _ _ _, hF.out.below (keeps_new _ _) (Nat.le_refl _)⟩
      rw [← hW7]
      generalize w7.heap.size = zb at Q7 ⊢
      clear hW7 k7 hb7 Q6 C hF
      refine (R W7).mono ?_; rintro e w8 ⟨rfl, hb8⟩
      have k8 : Keeps W7 (w8.alloc (.cells #[.int .u8 xi, .int .u8 yi, .int .u8 ui, .int .u8 vi] 24)) := Keeps.step hb8 (keeps_new _ _)
      obtain ⟨W8, hW8⟩ : ∃ W8, W8 = w8.alloc (.cells #[.int .u8 xi, .int .u8 yi, .int .u8 ui, .int .u8 vi] 24) := ⟨_, rfl⟩
      rw [← hW8] at k8
      have Q8 : Aside (Keeps w W8 ∧ Four W8 zb (.int .u8 0) (.int .u8 0) (.int .u8 0) (.int .u8 0) ∧ FaultAt W8 (.iface 56 (.pointer (some ⟨bb, 0, none⟩))) 11 0 .nilIface) := ⟨Q7.out.1.step k8, Q7.out.2.1.below k8, Q7.out.2.2.below k8 (Nat.le_refl _)⟩
      have f8 : Four W8 w8.heap.size (.int .u8 xi) (.int .u8 yi) (.int .u8 ui) (.int .u8 vi) := by rw [hW8]; exact four_new _ _ _ _ _ _
      obtain ⟨c0, c1, c2, c3⟩ := f8
      rw [hW8] at c0 c1 c2 c3
      clear R k8 hb8 Q7
      go_wp2_with fail
      rw [← hW8]
      clear c0 c1 c2 c3
      generalize w8.heap.size = wb
      clear hW8
      refine (RT W8).mono ?_; rintro e w9 ⟨rfl, hb9⟩
      have Q9 : Aside (Keeps w w9 ∧ Four w9 zb (.int .u8 0) (.int .u8 0) (.int .u8 0) (.int .u8 0) ∧ FaultAt w9 (.iface 56 (.pointer (some ⟨bb, 0, none⟩))) 11 0 .nilIface) := ⟨Q8.out.1.step hb9, Q8.out.2.1.below hb9, Q8.out.2.2.below hb9 (Nat.le_refl _)⟩
      clear Q8 hb9 RT
      go_wp2_with fail
      have A1 : ∀ W', Keeps w9 W' → Calls Tryz.prog 8 #[.iface 56 (.pointer (some ⟨bb, 0, none⟩))] W' fun e w' => e = .returned (.int .i64 11) ∧ Keeps w9 w' := fun W' h => kind_keeps (HL.out _ Q9.out.1).1.1 Q9.out.2.2 h
      have A2 : ∀ W', Keeps w9 W' → Calls Tryz.prog 9 #[.iface 56 (.pointer (some ⟨bb, 0, none⟩))] W' fun e w' => e = .returned (.int .i64 0) ∧ Keeps w9 w' := fun W' h => at_keeps (HL.out _ Q9.out.1).1.1 Q9.out.2.2 h
      refine (A1 w9 (Keeps.refl _)).mono ?_; rintro e wk ⟨rfl, hbk⟩
      clear A1
      go_wp2_with fail
      refine (A2 wk hbk).mono ?_; rintro e wa ⟨rfl, hba⟩
      have Qa : Aside (Keeps w wa ∧ Four wa zb (.int .u8 0) (.int .u8 0) (.int .u8 0) (.int .u8 0)) := ⟨Q9.out.1.step hba, Q9.out.2.1.below hba⟩
      obtain ⟨c0, c1, c2, c3⟩ := Qa.out.2
      clear A2 hbk hba Q9
      go_wp2_with fail
      go_ret
      exact ⟨rfl, Qa.out.1⟩
end Go.Proofs.YtahlkhaehlemcaaGreatDoor.quadTexts
