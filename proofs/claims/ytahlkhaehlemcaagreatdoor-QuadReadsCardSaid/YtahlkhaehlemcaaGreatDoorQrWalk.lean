/- The walk of the law on addresses' texts: for any text it returns true, and what was there stays. -/
import Derived.Test.YtahlkhaehlemcaaGreatDoorRqParse
import Derived.Test.YtahlkhaehlemcaaGreatDoorQdSpeaks
set_option linter.unusedSimpArgs false
set_option linter.unusedVariables false
namespace Go.Proofs.YtahlkhaehlemcaaGreatDoor.quadReads
open Go.RowKit Go.Proofs.YtahlkhaehlemcaaGreatDoor.errs Go.Proofs.YtahlkhaehlemcaaGreatDoor.qparse Go.Proofs.YtahlkhaehlemcaaGreatDoor.qlaid Go.Proofs.YtahlkhaehlemcaaGreatDoor.rq Go.Proofs.YtahlkhaehlemcaaGreatDoor.qread

set_option maxRecDepth 100000 in
set_option maxHeartbeats 8000000 in
theorem law (s : ByteArray) (w : World) (_w0 : s.size ≤ maxLen) (hL : Lay w) :
    Calls Tryz.prog 3 #[.string s] w fun e w' => e = .returned (.bool true) ∧ Below w.heap.size w w' := by
  have S := speaks_any w hL
  have HL : Aside (∀ w', Keeps w w' → Lay w') := fun w' hk => hL.below hk
  clear hL _w0
  by_cases hbig : 600 < s.size
  · have x1 : (600 : Int) < (s.size : Int) := by omega
    go_enter Tryz.func3, Tryz.ntmps3
    go_wp2_with fail
    refine S.mono ?_; rintro e w1 ⟨rfl, k1⟩
    go_wp2_with fail
    go_ret
    exact ⟨rfl, k1⟩
  have x1 : (s.size : Int) ≤ 600 := by omega
  have P := fun w hv => parse_any s w (by omega) hv
  have R := fun w => rparse_any s w (by omega)
  have N1 := fun w => numeric_any s (by omega) w
  have N2 := fun w => rnumeric_any s (by omega) w
  generalize numericOf s = q at *
  cases ho : parseOf s with
  | bad k a =>
    rw [ho] at P R
    have P : ∀ w, RangeVar w → Calls Tryz.prog 6 #[.string s] w fun e w' => ∃ bb, e = .returned (.tuple #[.agg #[.int .u8 0, .int .u8 0, .int .u8 0, .int .u8 0], .iface 56 (.pointer (some ⟨bb, 0, none⟩))]) ∧ Aside (FaultAt w' (.iface 56 (.pointer (some ⟨bb, 0, none⟩))) k a .nilIface) ∧ Below w.heap.size w w' := fun w hv => parse_bad ho w (by omega) hv
    have R : ∀ w, Calls Tryz.prog 7 #[.string s] w fun e w' => e = .returned (.tuple #[.agg #[.int .u8 0, .int .u8 0, .int .u8 0, .int .u8 0], .int .i64 k, .int .i64 a]) ∧ Below w.heap.size w w' := R
    clear ho
    go_enter Tryz.func3, Tryz.ntmps3
    go_wp2_with fail
    refine S.mono ?_; rintro e w1 ⟨rfl, k1⟩
    go_wp2_with fail
    refine (P w1 (HL.out w1 k1).2).mono ?_; rintro e w2 ⟨bb, rfl, hF, k2⟩
    go_wp2_with fail
    obtain ⟨W2, hW2⟩ : ∃ W2, W2 = w2.alloc (.cells #[.int .u8 0, .int .u8 0, .int .u8 0, .int .u8 0] 24) := ⟨_, rfl⟩
    have Q2 : Aside (Keeps w W2 ∧ Four W2 w2.heap.size (.int .u8 0) (.int .u8 0) (.int .u8 0) (.int .u8 0) ∧ FaultAt W2 (.iface 56 (.pointer (some ⟨bb, 0, none⟩))) k a .nilIface) := by rw [hW2]; exact ⟨(Keeps.step k1 k2).step (keeps_new _ _), four_new _ _ _ _ _ _, hF.out.below (keeps_new _ _) (Nat.le_refl _)⟩
    rw [← hW2]
    generalize w2.heap.size = ab at Q2 ⊢
    clear hW2 k1 k2 S P hF
    refine (R W2).mono ?_; rintro e w3 ⟨rfl, k3⟩
    have kk : Keeps W2 (w3.alloc (.cells #[.int .u8 0, .int .u8 0, .int .u8 0, .int .u8 0] 24)) := Keeps.step k3 (keeps_new _ _)
    obtain ⟨W3, hW3⟩ : ∃ W3, W3 = w3.alloc (.cells #[.int .u8 0, .int .u8 0, .int .u8 0, .int .u8 0] 24) := ⟨_, rfl⟩
    rw [← hW3] at kk
    have Q3 : Aside (Keeps w W3 ∧ FaultAt W3 (.iface 56 (.pointer (some ⟨bb, 0, none⟩))) k a .nilIface) := ⟨Q2.out.1.step kk, Q2.out.2.2.below kk (Nat.le_refl _)⟩
    obtain ⟨c0, c1, c2, c3⟩ := Q2.out.2.1.below kk
    rw [hW3] at c0 c1 c2 c3
    have EQ := qeq.run_same
    unfold qeq.same at EQ
    clear Q2 k3 kk R
    go_wp2_with fail
    rw [← hW3]
    have A1 : ∀ W', Keeps W3 W' → Calls Tryz.prog 8 #[.iface 56 (.pointer (some ⟨bb, 0, none⟩))] W' fun e w' => e = .returned (.int .i64 k) ∧ Keeps W3 w' := fun W' h => kind_keeps (HL.out _ Q3.out.1).1 Q3.out.2 h
    have A2 : ∀ W', Keeps W3 W' → Calls Tryz.prog 9 #[.iface 56 (.pointer (some ⟨bb, 0, none⟩))] W' fun e w' => e = .returned (.int .i64 a) ∧ Keeps W3 w' := fun W' h => at_keeps (HL.out _ Q3.out.1).1 Q3.out.2 h
    clear c0 c1 c2 c3 EQ hW3
    refine (A1 W3 (Keeps.refl W3)).mono ?_; rintro e W4 ⟨rfl, k4⟩
    clear A1
    cases q <;>
    (go_wp2_with (first | (go_at_call 9; refine (A2 _ k4).mono ?_; rintro e W5 ⟨rfl, k5⟩) | (go_at_call 10; refine (N1 _).mono ?_; rintro e W6 ⟨rfl, k6⟩) | (go_at_call 11; refine (N2 _).mono ?_; rintro e W7 ⟨rfl, k7⟩))
     go_ret
     subst k7; exact ⟨rfl, (Q3.out.1.step k5).step k6⟩)
  | good a b c d =>
    rw [ho] at P R
    have P : ∀ w, RangeVar w → Calls Tryz.prog 6 #[.string s] w fun e w' => e = .returned (.tuple #[.agg #[.int .u8 a, .int .u8 b, .int .u8 c, .int .u8 d], .nilIface]) ∧ Below w.heap.size w w' := P
    have R : ∀ w, Calls Tryz.prog 7 #[.string s] w fun e w' => e = .returned (.tuple #[.agg #[.int .u8 a, .int .u8 b, .int .u8 c, .int .u8 d], .int .i64 0, .int .i64 0]) ∧ Below w.heap.size w w' := R
    clear ho
    go_enter Tryz.func3, Tryz.ntmps3
    go_wp2_with fail
    refine S.mono ?_; rintro e w1 ⟨rfl, k1⟩
    go_wp2_with fail
    refine (P w1 (HL.out w1 k1).2).mono ?_; rintro e w2 ⟨rfl, k2⟩
    go_wp2_with fail
    obtain ⟨W2, hW2⟩ : ∃ W2, W2 = w2.alloc (.cells #[.int .u8 a, .int .u8 b, .int .u8 c, .int .u8 d] 24) := ⟨_, rfl⟩
    have Q2 : Aside (Keeps w W2 ∧ Four W2 w2.heap.size (.int .u8 a) (.int .u8 b) (.int .u8 c) (.int .u8 d)) := by rw [hW2]; exact ⟨(Keeps.step k1 k2).step (keeps_new _ _), four_new _ _ _ _ _ _⟩
    rw [← hW2]
    generalize w2.heap.size = ab at Q2 ⊢
    clear hW2 k1 k2 S P
    refine (R W2).mono ?_; rintro e w3 ⟨rfl, k3⟩
    have kk : Keeps W2 (w3.alloc (.cells #[.int .u8 a, .int .u8 b, .int .u8 c, .int .u8 d] 24)) := Keeps.step k3 (keeps_new _ _)
    obtain ⟨W3, hW3⟩ : ∃ W3, W3 = w3.alloc (.cells #[.int .u8 a, .int .u8 b, .int .u8 c, .int .u8 d] 24) := ⟨_, rfl⟩
    rw [← hW3] at kk
    have Q3 : Aside (Keeps w W3) := Q2.out.1.step kk
    obtain ⟨c0, c1, c2, c3⟩ := Q2.out.2.below kk
    rw [hW3] at c0 c1 c2 c3
    have EQ := qeq.run_same
    unfold qeq.same at EQ
    clear Q2 k3 kk R
    go_wp2_with fail
    rw [← hW3]
    clear c0 c1 c2 c3 EQ hW3
    refine (kind_nil W3).mono ?_; rintro e W4 ⟨rfl, rfl⟩
    cases q <;>
    (go_wp2_with (first | (go_at_call 10; refine (N1 _).mono ?_; rintro e W6 ⟨rfl, k6⟩) | (go_at_call 11; refine (N2 _).mono ?_; rintro e W7 ⟨rfl, k7⟩))
     go_ret
     subst k7; exact ⟨rfl, Q3.out.step k6⟩)
end Go.Proofs.YtahlkhaehlemcaaGreatDoor.quadReads
