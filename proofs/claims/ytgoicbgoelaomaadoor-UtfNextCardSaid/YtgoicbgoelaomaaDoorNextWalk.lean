/- The walk of the law on Next: at any place of any bytes it returns true, and what was there stays. -/
import Derived.Test.YtgoicbgoelaomaaDoorSpeaks
import Derived.Test.YtgoicbgoelaomaaDoorCalm
import Derived.Test.YtgoicbgoelaomaaDoorFrame
import Derived.Test.YtgoicbgoelaomaaDoorRefNext
set_option linter.unusedSimpArgs false
set_option linter.unusedVariables false
namespace Go.Proofs.YtgoicbgoelaomaaDoor.utfNext
open Go.RowKit Go.Proofs.YtgoicbgoelaomaaDoor.errs Go.Proofs.YtgoicbgoelaomaaDoor.utf

/-- A fault that a call has laid, in a world that keeps all of the first one's. -/
theorem opened {W w : World} {k a : Int} {rest : Value → Value} (hb : Keeps W w) (e : Ending) (w' : World) (h : Failed w e w' k a rest) :
    ∃ bb, e = .returned (rest (.iface 59 (.pointer (some ⟨bb, 0, none⟩)))) ∧ Aside (FaultAt w' (.iface 59 (.pointer (some ⟨bb, 0, none⟩))) k a .nilIface ∧ Keeps W w') := by
  obtain ⟨v, rfl, ⟨bb, rfl, q⟩, hb'⟩ := h
  exact ⟨bb, rfl, ⟨bb, rfl, q⟩, hb.step hb'⟩

set_option maxHeartbeats 4000000 in
theorem law (a : Option Addr) (len cap : Nat) (zs : List Int) (i : Int) (w : World) (w0 : frame.IsRow .u8 w a len cap zs) (_w1 : (Lit.int .i64 i).wf = true) (hH : Tabs w ∧ Laid w) :
    Calls Tryd.prog 4 #[.slice a len cap, .int .i64 i] w fun e w' => e = .returned (.bool true) ∧ Below w.heap.size w w' := by
  have S := speaks_any w hH.1 hH.2
  obtain ⟨hv, hs⟩ := frame.sl_of_row w0
  generalize frame.bytesOf (zs.take len) = s at hv hs
  have H : Aside (Tabs w ∧ Laid w ∧ Sl w (.slice a len cap) s ∧ s.size = len) := ⟨hH.1, hH.2, hv, hs⟩
  obtain ⟨n, hn⟩ : ∃ n, n = len := ⟨_, rfl⟩
  rw [← hn]
  clear hH _w1 w0 hv hs
  by_cases hbig : 5000 < n
  · have x1 : (5000 : Int) < (n : Int) := by omega
    clear hn
    go_enter Tryd.func4, Tryd.ntmps4
    go_wp2_with fail
    refine S.mono ?_; rintro e w1 ⟨rfl, hb1⟩
    go_wp2_with fail
    go_ret
    exact ⟨rfl, hb1⟩
  have x1 : (n : Int) ≤ 5000 := by omega
  by_cases hout : i < 0 ∨ (n : Int) < i
  · have C : ∀ w', Keeps w w' → Calls Tryd.prog 16 #[.slice a n cap, .int .i64 i] w' fun e w'' => ∃ bb, e = .returned (.tuple #[.int .i64 0, .int .i64 0, .iface 59 (.pointer (some ⟨bb, 0, none⟩))]) ∧ Aside (FaultAt w'' (.iface 59 (.pointer (some ⟨bb, 0, none⟩))) 1 i .nilIface ∧ Keeps w w'') :=
      fun w' hk => (next_arg a n cap i w' hout).mono (opened hk)
    clear hn hbig
    rcases hout with h | h
    all_goals
      go_enter Tryd.func4, Tryd.ntmps4
      go_wp2_with fail
      refine S.mono ?_; rintro e w1 ⟨rfl, hb1⟩
      go_wp2_with fail
      refine (C w1 hb1).mono ?_; rintro e w2 ⟨bb, rfl, hF⟩
      have L2 : Aside (Laid w2) := H.out.2.1.below hF.out.2 (Nat.le_refl _)
      have A1 : ∀ w', Keeps w2 w' → Calls Tryd.prog 13 #[.iface 59 (.pointer (some ⟨bb, 0, none⟩))] w' fun e w' => e = .returned (.int .i64 1) ∧ Keeps w2 w' := fun w' h => kind_keeps L2.out hF.out.1 h
      have A2 : ∀ w', Keeps w2 w' → Calls Tryd.prog 14 #[.iface 59 (.pointer (some ⟨bb, 0, none⟩))] w' fun e w' => e = .returned (.int .i64 i) ∧ Keeps w2 w' := fun w' h => at_keeps L2.out hF.out.1 h
      go_wp2_with fail
      refine (A1 _ (Keeps.refl _)).mono ?_; rintro e w3 ⟨rfl, k3⟩
      go_wp2_with fail
      refine (A2 _ k3).mono ?_; rintro e w4 ⟨rfl, k4⟩
      go_wp2_with fail
      go_ret
      exact ⟨rfl, hF.out.2.step k4⟩
  have i0 : 0 ≤ i := by omega
  obtain ⟨j, rfl⟩ := Int.eq_ofNat_of_zero_le i0
  by_cases hend : j = n
  · subst hend
    have C : ∀ w', Keeps w w' → Calls Tryd.prog 16 #[.slice a j cap, .int .i64 j] w' fun e w'' => ∃ bb, e = .returned (.tuple #[.int .i64 0, .int .i64 0, .iface 59 (.pointer (some ⟨bb, 0, none⟩))]) ∧ Aside (FaultAt w'' (.iface 59 (.pointer (some ⟨bb, 0, none⟩))) 10 j .nilIface ∧ Keeps w w'') :=
      fun w' hk => (next_short a j cap w').mono (opened hk)
    clear hn hbig hout
    go_enter Tryd.func4, Tryd.ntmps4
    go_wp2_with fail
    refine S.mono ?_; rintro e w1 ⟨rfl, hb1⟩
    go_wp2_with fail
    refine (C w1 hb1).mono ?_; rintro e w2 ⟨bb, rfl, hF⟩
    have L2 : Aside (Laid w2) := H.out.2.1.below hF.out.2 (Nat.le_refl _)
    have A1 : ∀ w', Keeps w2 w' → Calls Tryd.prog 13 #[.iface 59 (.pointer (some ⟨bb, 0, none⟩))] w' fun e w' => e = .returned (.int .i64 10) ∧ Keeps w2 w' := fun w' h => kind_keeps L2.out hF.out.1 h
    have A2 : ∀ w', Keeps w2 w' → Calls Tryd.prog 14 #[.iface 59 (.pointer (some ⟨bb, 0, none⟩))] w' fun e w' => e = .returned (.int .i64 j) ∧ Keeps w2 w' := fun w' h => at_keeps L2.out hF.out.1 h
    go_wp2_with fail
    refine (A1 _ (Keeps.refl _)).mono ?_; rintro e w3 ⟨rfl, k3⟩
    go_wp2_with fail
    refine (A2 _ k3).mono ?_; rintro e w4 ⟨rfl, k4⟩
    go_wp2_with fail
    go_ret
    exact ⟨rfl, hF.out.2.step k4⟩
  have hj : j < n := by omega
  obtain ⟨hT, hL, ⟨a', cap', ev, hc, hm, hB⟩, hz⟩ := H.out
  obtain rfl : n = s.size := by omega
  simp only [Value.slice.injEq] at ev
  obtain ⟨rfl, -, rfl⟩ := ev
  obtain ⟨b, off, rfl, hBy⟩ := hB (by omega)
  clear hB
  have y1 : (j : Int) < (s.size : Int) := by omega
  have D : ∀ w', Keeps w w' → Calls Tryd.prog 17 #[.slice (some ⟨b, off, none⟩) s.size cap, .int .i64 j] w' fun e w'' => e = .returned (.tuple #[.int .i64 (ref.refN s j).1, .int .i64 (ref.refN s j).2]) ∧ Keeps w' w'' :=
    fun w' hk => ref.next_any s b off cap j w' (hBy.below hk (Nat.le_refl _)) hj hc hm (by omega)
  cases hy : charAt s j with
  | true =>
    have C : ∀ w', Keeps w w' → Calls Tryd.prog 16 #[.slice (some ⟨b, off, none⟩) s.size cap, .int .i64 j] w' fun e w'' => e = .returned (.tuple #[.int .i64 (Utf8.decode s j).1, .int .i64 (Utf8.decode s j).2, .nilIface]) ∧ Keeps w w'' :=
      fun w' hk => (next_char s b off cap j w' (hT.below hk (Nat.le_refl _)) (hBy.below hk (Nat.le_refl _)) hj hc hm hy).mono fun _ _ ⟨h1, h2⟩ => ⟨h1, hk.step h2⟩
    have er : ref.refN s j = Utf8.decode s j := by unfold ref.refN; rw [if_pos hy]
    rw [er] at D
    obtain ⟨-, b2, -⟩ := decode_bounds s j
    generalize (Utf8.decode s j).1 = R at *
    generalize (Utf8.decode s j).2 = K at *
    have z1 : ((K : Int) == 0) = false := beq_eq_false_iff_ne.2 (by omega)
    clear H hn hbig hout hend hBy hT hL hy er hz
    generalize s.size = n at *
    go_enter Tryd.func4, Tryd.ntmps4
    go_wp2_with fail
    refine S.mono ?_; rintro e w1 ⟨rfl, hb1⟩
    go_wp2_with fail
    refine (C w1 hb1).mono ?_; rintro e w2 ⟨rfl, k2⟩
    go_wp2_with fail
    refine (D w2 k2).mono ?_; rintro e w3 ⟨rfl, k3⟩
    go_wp2_with fail
    go_ret
    exact ⟨rfl, k2.step k3⟩
  | false =>
    have C : ∀ w', Keeps w w' → Calls Tryd.prog 16 #[.slice (some ⟨b, off, none⟩) s.size cap, .int .i64 j] w' fun e w'' => ∃ bb, e = .returned (.tuple #[.int .i64 0, .int .i64 0, .iface 59 (.pointer (some ⟨bb, 0, none⟩))]) ∧ Aside (FaultAt w'' (.iface 59 (.pointer (some ⟨bb, 0, none⟩))) 12 j .nilIface ∧ Keeps w w'') :=
      fun w' hk => (next_bad s b off cap j w' (hT.below hk (Nat.le_refl _)) (hBy.below hk (Nat.le_refl _)) hj hc hm hy).mono (opened hk)
    have er : ref.refN s j = (0, 0) := by unfold ref.refN; rw [if_neg (by rw [hy]; decide)]
    rw [er] at D
    have HL : Aside (Laid w) := hL
    clear H hn hbig hout hend hBy hT hL hy er hz
    generalize s.size = n at *
    go_enter Tryd.func4, Tryd.ntmps4
    go_wp2_with fail
    refine S.mono ?_; rintro e w1 ⟨rfl, hb1⟩
    go_wp2_with fail
    refine (C w1 hb1).mono ?_; rintro e w2 ⟨bb, rfl, hF⟩
    go_wp2_with fail
    refine (D w2 hF.out.2).mono ?_; rintro e w3 ⟨rfl, k3⟩
    have F3 : Aside (FaultAt w3 (.iface 59 (.pointer (some ⟨bb, 0, none⟩))) 12 j .nilIface ∧ Keeps w w3) := ⟨hF.out.1.below k3 (Nat.le_refl _), hF.out.2.step k3⟩
    have L3 : Aside (Laid w3) := HL.out.below F3.out.2 (Nat.le_refl _)
    have A1 : ∀ w', Keeps w3 w' → Calls Tryd.prog 13 #[.iface 59 (.pointer (some ⟨bb, 0, none⟩))] w' fun e w' => e = .returned (.int .i64 12) ∧ Keeps w3 w' := fun w' h => kind_keeps L3.out F3.out.1 h
    have A2 : ∀ w', Keeps w3 w' → Calls Tryd.prog 14 #[.iface 59 (.pointer (some ⟨bb, 0, none⟩))] w' fun e w' => e = .returned (.int .i64 j) ∧ Keeps w3 w' := fun w' h => at_keeps L3.out F3.out.1 h
    clear k3
    go_wp2_with fail
    refine (A1 _ (Keeps.refl _)).mono ?_; rintro e w4 ⟨rfl, k4⟩
    go_wp2_with fail
    refine (A2 _ k4).mono ?_; rintro e w5 ⟨rfl, k5⟩
    go_wp2_with fail
    go_ret
    exact ⟨rfl, F3.out.2.step k5⟩
end Go.Proofs.YtgoicbgoelaomaaDoor.utfNext
