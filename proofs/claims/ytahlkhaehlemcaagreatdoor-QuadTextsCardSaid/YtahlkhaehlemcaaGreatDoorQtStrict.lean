/- quad.Strict: the address of a text in its canonical form alone. -/
import Derived.Test.YtahlkhaehlemcaaGreatDoorQtText
import Derived.Test.YtahlkhaehlemcaaGreatDoorQdFell
set_option linter.unusedSimpArgs false
set_option linter.unusedVariables false
namespace Go.Proofs.YtahlkhaehlemcaaGreatDoor.qtext
open Go.RowKit Go.Proofs.YtahlkhaehlemcaaGreatDoor.errs Go.Proofs.YtahlkhaehlemcaaGreatDoor.rq Go.Proofs.YtahlkhaehlemcaaGreatDoor.qparse Go.Proofs.YtahlkhaehlemcaaGreatDoor.qlaid Go.Proofs.YtahlkhaehlemcaaGreatDoor.qread

def Refused (w : World) (e : Ending) (w' : World) : Prop := ∃ bb, e = .returned (.tuple #[.agg #[.int .u8 0, .int .u8 0, .int .u8 0, .int .u8 0], .iface 56 (.pointer (some ⟨bb, 0, none⟩))]) ∧ Aside (FaultAt w' (.iface 56 (.pointer (some ⟨bb, 0, none⟩))) 11 0 .nilIface) ∧ Below w.heap.size w w'

set_option maxRecDepth 100000 in
set_option maxHeartbeats 4000000 in
theorem strict_bad {s : ByteArray} {k a : Nat} (h : parseOf s = .bad k a) (w : World) (hs : s.size ≤ 1000) (hv : RangeVar w) :
    Calls Tryz.prog 13 #[.string s] w fun e w' => Refused w e w' := by
  obtain ⟨W, hW⟩ : ∃ W, W = w.alloc (.cells #[.int .u8 0, .int .u8 0, .int .u8 0, .int .u8 0] 24) := ⟨_, rfl⟩
  have R : Aside (Res w W) := by rw [hW]; exact res_new w
  have P := parse_bad h W hs (hv.below R.out.2.2.2.2.1 (Nat.le_refl _))
  replace hW := Lib.hid hW
  clear hv h
  go_enter Tryz.func13, Tryz.ntmps13
  go_wp2_with fail
  rw [← hW.out]
  refine P.mono ?_; rintro e w1 ⟨bb, rfl, hF, hb1⟩
  have R1 : Aside (Res w w1) := R.out.below hb1
  have kb : Keeps w1 (w1.alloc (.cells #[.int .u8 0, .int .u8 0, .int .u8 0, .int .u8 0] 24)) := keeps_new _ _
  have R2 : Aside (Res w (w1.alloc (.cells #[.int .u8 0, .int .u8 0, .int .u8 0, .int .u8 0] 24))) := R1.out.below kb
  clear hF P R hW kb hb1
  go_wp2_with fail
  obtain ⟨W2, hW2⟩ : ∃ W2, W2 = w1.alloc (.cells #[.int .u8 0, .int .u8 0, .int .u8 0, .int .u8 0] 24) := ⟨_, rfl⟩
  rw [← hW2] at R2 ⊢
  have F := fail_fell 11 0 W2
  clear hW2 R1
  generalize w1.heap.size = pb
  refine F.mono ?_; rintro e w3 ⟨b3, rfl, hF3⟩
  have R3 : Aside (Res w w3 ∧ w.heap.size < b3 ∧ FaultAt w3 (.iface 56 (.pointer (some ⟨b3, 0, none⟩))) 11 0 .nilIface) := ⟨R2.out.below hF3.out.2.2, Nat.lt_of_lt_of_le R2.out.2.2.2.2.2 hF3.out.1, hF3.out.2.1⟩
  obtain ⟨d0, z0⟩ := R3.out.1.1
  obtain ⟨d1, z1⟩ := R3.out.1.2.1
  obtain ⟨d2, z2⟩ := R3.out.1.2.2.1
  obtain ⟨d3, z3⟩ := R3.out.1.2.2.2.1
  clear hF3 F R2
  go_wp2_with fail
  exact bodyPost_ret (v := noAddr (.iface 56 (.pointer (some ⟨b3, 0, none⟩)))) (by simp [results, Tryz.results13, go_sem, d0, d1, d2, d3, noAddr]) rfl
    ⟨b3, rfl, inBox_fault R3.out.2.2 (Nat.ne_of_lt R3.out.2.1), inBox_below R3.out.1.2.2.2.2.1 (Nat.le_refl _)⟩

set_option maxRecDepth 100000 in
set_option maxHeartbeats 4000000 in
theorem strict_good {s : ByteArray} {a b c d : Nat} (h : parseOf s = .good a b c d) (ht : textOf a b c d = s) (w : World) (hs : s.size ≤ 1000) (hv : RangeVar w) (hp : Pow w) :
    Calls Tryz.prog 13 #[.string s] w fun e w' => e = .returned (.tuple #[.agg #[.int .u8 a, .int .u8 b, .int .u8 c, .int .u8 d], .nilIface]) ∧ Below w.heap.size w w' := by
  obtain ⟨W, hW⟩ : ∃ W, W = w.alloc (.cells #[.int .u8 0, .int .u8 0, .int .u8 0, .int .u8 0] 24) := ⟨_, rfl⟩
  have R : Aside (Res w W) := by rw [hW]; exact res_new w
  have P := parse_good h W hs (hv.below R.out.2.2.2.2.1 (Nat.le_refl _))
  replace hW := Lib.hid hW
  obtain ⟨ha, hb, hc, hd⟩ := parse_small h
  have T := fun w hp => text_any a b c d ha hb hc hd w hp
  rw [ht] at T
  have HP : Aside (∀ w', Keeps w w' → Pow w') := fun w' hk => hp.below hk (Nat.le_refl _)
  obtain ⟨ai, hai⟩ : ∃ ai : Int, Hid ((a : Int) = ai) := ⟨_, rfl⟩
  obtain ⟨bi, hbi⟩ : ∃ bi : Int, Hid ((b : Int) = bi) := ⟨_, rfl⟩
  obtain ⟨ci, hci⟩ : ∃ ci : Int, Hid ((c : Int) = ci) := ⟨_, rfl⟩
  obtain ⟨di, hdi⟩ : ∃ di : Int, Hid ((d : Int) = di) := ⟨_, rfl⟩
  rw [hai.out, hbi.out, hci.out, hdi.out] at T P ⊢
  clear hv h hp ha hb hc hd hai hbi hci hdi ht
  go_enter Tryz.func13, Tryz.ntmps13
  go_wp2_with fail
  rw [← hW.out]
  refine P.mono ?_; rintro e w1 ⟨rfl, hb1⟩
  have R1 : Aside (Res w w1) := R.out.below hb1
  have kb : Keeps w1 (w1.alloc (.cells #[.int .u8 ai, .int .u8 bi, .int .u8 ci, .int .u8 di] 24)) := keeps_new _ _
  have R2 : Aside (Res w (w1.alloc (.cells #[.int .u8 ai, .int .u8 bi, .int .u8 ci, .int .u8 di] 24)) ∧ Four (w1.alloc (.cells #[.int .u8 ai, .int .u8 bi, .int .u8 ci, .int .u8 di] 24)) w1.heap.size (.int .u8 ai) (.int .u8 bi) (.int .u8 ci) (.int .u8 di)) := ⟨R1.out.below kb, four_new _ _ _ _ _ _⟩
  clear P R hW kb hb1
  go_wp2_with fail
  obtain ⟨W2, hW2⟩ : ∃ W2, W2 = w1.alloc (.cells #[.int .u8 ai, .int .u8 bi, .int .u8 ci, .int .u8 di] 24) := ⟨_, rfl⟩
  rw [← hW2] at R2 ⊢
  have C := T W2 (HP.out W2 R2.out.1.2.2.2.2.1)
  clear hW2 R1 T HP
  generalize w1.heap.size = pb at R2 ⊢
  refine C.mono ?_; rintro e w3 ⟨rfl, hb3⟩
  have R3 : Aside (Res w w3 ∧ Four w3 pb (.int .u8 ai) (.int .u8 bi) (.int .u8 ci) (.int .u8 di)) := ⟨R2.out.1.below hb3, R2.out.2.below hb3⟩
  obtain ⟨d0, z0⟩ := R3.out.1.1
  obtain ⟨d1, z1⟩ := R3.out.1.2.1
  obtain ⟨d2, z2⟩ := R3.out.1.2.2.1
  obtain ⟨d3, z3⟩ := R3.out.1.2.2.2.1
  obtain ⟨p0, p1, p2, p3⟩ := R3.out.2
  clear C R2 hb3
  go_wp2_with fail
  exact bodyPost_ret (v := .tuple #[.agg #[.int .u8 ai, .int .u8 bi, .int .u8 ci, .int .u8 di], .nilIface]) (by simp [results, Tryz.results13, go_sem, d0, d1, d2, d3]) rfl
    ⟨rfl, inBox_below R3.out.1.2.2.2.2.1 (Nat.le_refl _)⟩

set_option maxRecDepth 100000 in
set_option maxHeartbeats 4000000 in
theorem strict_other {s : ByteArray} {a b c d : Nat} (h : parseOf s = .good a b c d) (ht : textOf a b c d ≠ s) (w : World) (hs : s.size ≤ 1000) (hv : RangeVar w) (hp : Pow w) :
    Calls Tryz.prog 13 #[.string s] w fun e w' => Refused w e w' := by
  obtain ⟨W, hW⟩ : ∃ W, W = w.alloc (.cells #[.int .u8 0, .int .u8 0, .int .u8 0, .int .u8 0] 24) := ⟨_, rfl⟩
  have R : Aside (Res w W) := by rw [hW]; exact res_new w
  have P := parse_good h W hs (hv.below R.out.2.2.2.2.1 (Nat.le_refl _))
  replace hW := Lib.hid hW
  obtain ⟨ha, hb, hc, hd⟩ := parse_small h
  have T := fun w hp => text_any a b c d ha hb hc hd w hp
  obtain ⟨t, htt⟩ : ∃ t, Hid (textOf a b c d = t) := ⟨_, rfl⟩
  rw [htt.out] at T ht
  have hne : (t.toList == s.toList) = false := by rw [ByteArray.toList_eq, ByteArray.toList_eq]; exact beq_eq_false_iff_ne.2 fun e => ht (list_ext e)
  have HP : Aside (∀ w', Keeps w w' → Pow w') := fun w' hk => hp.below hk (Nat.le_refl _)
  obtain ⟨ai, hai⟩ : ∃ ai : Int, Hid ((a : Int) = ai) := ⟨_, rfl⟩
  obtain ⟨bi, hbi⟩ : ∃ bi : Int, Hid ((b : Int) = bi) := ⟨_, rfl⟩
  obtain ⟨ci, hci⟩ : ∃ ci : Int, Hid ((c : Int) = ci) := ⟨_, rfl⟩
  obtain ⟨di, hdi⟩ : ∃ di : Int, Hid ((d : Int) = di) := ⟨_, rfl⟩
  rw [hai.out, hbi.out, hci.out, hdi.out] at T P
  clear hv h hp ha hb hc hd hai hbi hci hdi ht htt
  go_enter Tryz.func13, Tryz.ntmps13
  go_wp2_with fail
  rw [← hW.out]
  refine P.mono ?_; rintro e w1 ⟨rfl, hb1⟩
  have R1 : Aside (Res w w1) := R.out.below hb1
  have kb : Keeps w1 (w1.alloc (.cells #[.int .u8 ai, .int .u8 bi, .int .u8 ci, .int .u8 di] 24)) := keeps_new _ _
  have R2 : Aside (Res w (w1.alloc (.cells #[.int .u8 ai, .int .u8 bi, .int .u8 ci, .int .u8 di] 24)) ∧ Four (w1.alloc (.cells #[.int .u8 ai, .int .u8 bi, .int .u8 ci, .int .u8 di] 24)) w1.heap.size (.int .u8 ai) (.int .u8 bi) (.int .u8 ci) (.int .u8 di)) := ⟨R1.out.below kb, four_new _ _ _ _ _ _⟩
  clear P R hW kb hb1
  go_wp2_with fail
  obtain ⟨W2, hW2⟩ : ∃ W2, W2 = w1.alloc (.cells #[.int .u8 ai, .int .u8 bi, .int .u8 ci, .int .u8 di] 24) := ⟨_, rfl⟩
  rw [← hW2] at R2 ⊢
  have C := T W2 (HP.out W2 R2.out.1.2.2.2.2.1)
  clear hW2 R1 T HP
  generalize w1.heap.size = pb at R2 ⊢
  refine C.mono ?_; rintro e w3 ⟨rfl, hb3⟩
  have R3 : Aside (Res w w3 ∧ Four w3 pb (.int .u8 ai) (.int .u8 bi) (.int .u8 ci) (.int .u8 di)) := ⟨R2.out.1.below hb3, R2.out.2.below hb3⟩
  obtain ⟨d0, z0⟩ := R3.out.1.1
  obtain ⟨d1, z1⟩ := R3.out.1.2.1
  obtain ⟨d2, z2⟩ := R3.out.1.2.2.1
  obtain ⟨d3, z3⟩ := R3.out.1.2.2.2.1
  obtain ⟨p0, p1, p2, p3⟩ := R3.out.2
  clear C R2 hb3
  have R4 : Aside (Res w w3) := R3.out.1
  clear R3 p0 p1 p2 p3 d0 d1 d2 d3 z0 z1 z2 z3
  go_wp2_with fail
  refine (fail_fell 11 0 w3).mono ?_; rintro e w4 ⟨b3, rfl, hF3⟩
  have R5 : Aside (Res w w4 ∧ w.heap.size < b3 ∧ FaultAt w4 (.iface 56 (.pointer (some ⟨b3, 0, none⟩))) 11 0 .nilIface) := ⟨R4.out.below hF3.out.2.2, Nat.lt_of_lt_of_le R4.out.2.2.2.2.2 hF3.out.1, hF3.out.2.1⟩
  obtain ⟨d0, z0⟩ := R5.out.1.1
  obtain ⟨d1, z1⟩ := R5.out.1.2.1
  obtain ⟨d2, z2⟩ := R5.out.1.2.2.1
  obtain ⟨d3, z3⟩ := R5.out.1.2.2.2.1
  clear hF3 R4
  go_wp2_with fail
  exact bodyPost_ret (v := noAddr (.iface 56 (.pointer (some ⟨b3, 0, none⟩)))) (by simp [results, Tryz.results13, go_sem, d0, d1, d2, d3, noAddr]) rfl
    ⟨b3, rfl, inBox_fault R5.out.2.2 (Nat.ne_of_lt R5.out.2.1), inBox_below R5.out.1.2.2.2.2.1 (Nat.le_refl _)⟩
end Go.Proofs.YtahlkhaehlemcaaGreatDoor.qtext
