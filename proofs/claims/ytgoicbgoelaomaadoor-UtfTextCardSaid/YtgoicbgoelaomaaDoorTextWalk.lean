/- The walk of the law on Text: for any numbers it returns true, and what was there stays. -/
import Derived.Test.YtgoicbgoelaomaaDoorSpeaks
import Derived.Test.YtgoicbgoelaomaaDoorCalm
import Derived.Test.YtgoicbgoelaomaaDoorPutMath
import Derived.Test.YtgoicbgoelaomaaDoorRefText
import Derived.Deep.QuietTactic
import Derived.BigQuiet
set_option linter.unusedSimpArgs false
set_option linter.unusedVariables false
namespace Go.Proofs.YtgoicbgoelaomaaDoor.utfText
open Go.RowKit Go.Proofs.YtgoicbgoelaomaaDoor.errs Go.Proofs.YtgoicbgoelaomaaDoor.utf Go.Proofs.YtgoicbgoelaomaaDoor.umath Go.Proofs.YtgoicbgoelaomaaDoor.text Go.Proofs.YtgoicbgoelaomaaDoor.ref Go.Proofs.YtgoicbgoelaomaaDoor.chars

theorem nums_of_row {w : World} {a : Option Addr} {len cap : Nat} {zs : List Int} (h : frame.IsRow .i64 w a len cap zs) : Nums w (.slice a len cap) (zs.take len) ∧ (zs.take len).length = len := by
  rcases h with ⟨rfl, rfl, rfl, rfl⟩ | ⟨x, rfl, hl, hm, hz, hc, hw⟩
  · exact ⟨⟨none, 0, rfl, Nat.le_refl _, by decide, fun h => absurd h (by decide)⟩, rfl⟩
  · have hs : (zs.take len).length = len := by rw [List.length_take]; omega
    refine ⟨⟨some x, cap, by rw [hs], by rw [hs]; exact hl, by unfold maxLen at hm; omega, fun h0 => ?_⟩, hs⟩
    rw [hs] at h0
    have c0 := hc 0 (by omega)
    obtain ⟨b, off, spot⟩ := x
    have hsp : spot = none := by
      cases spot with
      | none => rfl
      | some t => simp [World.cell?, Addr.add] at c0; split at c0 <;> simp at c0
    subst hsp
    refine ⟨b, off, rfl, fun j hj => ?_⟩
    rw [hs] at hj
    have := hc j (by omega)
    rw [show (⟨b, off + j, none⟩ : Addr) = Addr.add ⟨b, off, none⟩ j from by simp [Addr.add], this]
    congr 2
    simp [List.getD_eq_getElem?_getD, hj]

theorem opened {W w : World} {k a : Int} {rest : Value → Value} (hb : Keeps W w) (e : Ending) (w' : World) (h : Failed w e w' k a rest) :
    ∃ bb, e = .returned (rest (.iface 59 (.pointer (some ⟨bb, 0, none⟩)))) ∧ Aside (FaultAt w' (.iface 59 (.pointer (some ⟨bb, 0, none⟩))) k a .nilIface ∧ Keeps W w') := by
  obtain ⟨v, rfl, ⟨bb, rfl, q⟩, hb'⟩ := h
  exact ⟨bb, rfl, ⟨bb, rfl, q⟩, hb.step hb'⟩

set_option maxHeartbeats 4000000 in
theorem law (a : Option Addr) (len cap : Nat) (zs : List Int) (w : World) (w0 : frame.IsRow .i64 w a len cap zs) (hH : Tabs w ∧ Laid w) :
    Calls Tryd.prog 6 #[.slice a len cap] w fun e w' => e = .returned (.bool true) ∧ Below w.heap.size w w' := by
  have S := speaks_any w hH.1 hH.2
  obtain ⟨hv, hs⟩ := nums_of_row w0
  generalize zs.take len = xs at hv hs
  have H : Aside (Tabs w ∧ Laid w ∧ Nums w (.slice a len cap) xs ∧ xs.length = len) := ⟨hH.1, hH.2, hv, hs⟩
  obtain ⟨n, hn⟩ : ∃ n, n = len := ⟨_, rfl⟩
  rw [← hn]
  clear hH w0 hv hs
  by_cases hbig : 2000 < n
  · have x1 : (2000 : Int) < (n : Int) := by omega
    clear hn
    go_enter Tryd.func6, Tryd.ntmps6
    go_wp2_with fail
    refine S.mono ?_; rintro e w1 ⟨rfl, hb1⟩
    go_wp2_with fail
    go_ret
    exact ⟨rfl, hb1⟩
  have x1 : (n : Int) ≤ 2000 := by omega
  have T : ∀ w', Keeps w w' → Calls Tryd.prog 21 #[.slice a n cap] w' fun e w'' => TextOut xs (badAt xs) w' e w'' := fun w' hk => by
    rw [hn]; exact text_any xs _ w' (H.out.2.2.1.below hk) (by have := H.out.2.2.2; omega)
  have R : ∀ w', Keeps w w' → Calls Tryd.prog 22 #[.slice a n cap] w' fun e w'' => RefTextOut xs (badAt xs) w' e w'' := fun w' hk => by
    rw [hn]; exact text_ref xs _ w' (H.out.2.2.1.below hk) (by have := H.out.2.2.2; omega)
  cases hb : badAt xs with
  | some i =>
    rw [hb] at T R
    have T : ∀ w', Keeps w w' → Calls Tryd.prog 21 #[.slice a n cap] w' fun e w'' => ∃ bb, e = .returned (.tuple #[.slice none 0 0, .iface 59 (.pointer (some ⟨bb, 0, none⟩))]) ∧ Aside (FaultAt w'' (.iface 59 (.pointer (some ⟨bb, 0, none⟩))) 16 i .nilIface ∧ Keeps w w'') :=
      fun w' hk => (T w' hk).mono (opened hk)
    have R : ∀ w', Keeps w w' → Calls Tryd.prog 22 #[.slice a n cap] w' fun e w'' => ∃ v, e = .returned (.tuple #[v, .int .i64 i]) ∧ Keeps w' w'' := R
    have HL : Aside (Laid w) := H.out.2.1
    have y1 : (0 : Int) ≤ (i : Int) := by omega
    clear H hn hbig hb
    go_enter Tryd.func6, Tryd.ntmps6
    go_wp2_with fail
    refine S.mono ?_; rintro e w1 ⟨rfl, hb1⟩
    go_wp2_with fail
    refine (T w1 hb1).mono ?_; rintro e w2 ⟨bb, rfl, hF⟩
    go_wp2_with fail
    refine (R w2 hF.out.2).mono ?_; rintro e w3 ⟨v, rfl, k3⟩
    have F3 : Aside (FaultAt w3 (.iface 59 (.pointer (some ⟨bb, 0, none⟩))) 16 i .nilIface ∧ Keeps w w3) := ⟨hF.out.1.below k3 (Nat.le_refl _), hF.out.2.step k3⟩
    have L3 : Aside (Laid w3) := HL.out.below F3.out.2 (Nat.le_refl _)
    have A1 : ∀ w', Keeps w3 w' → Calls Tryd.prog 13 #[.iface 59 (.pointer (some ⟨bb, 0, none⟩))] w' fun e w' => e = .returned (.int .i64 16) ∧ Keeps w3 w' := fun w' h => kind_keeps L3.out F3.out.1 h
    have A2 : ∀ w', Keeps w3 w' → Calls Tryd.prog 14 #[.iface 59 (.pointer (some ⟨bb, 0, none⟩))] w' fun e w' => e = .returned (.int .i64 i) ∧ Keeps w3 w' := fun w' h => at_keeps L3.out F3.out.1 h
    clear k3
    go_wp2_with fail
    refine (A1 _ (Keeps.refl _)).mono ?_; rintro e w4 ⟨rfl, k4⟩
    go_wp2_with fail
    refine (A2 _ k4).mono ?_; rintro e w5 ⟨rfl, k5⟩
    go_wp2_with fail
    go_ret
    exact ⟨rfl, F3.out.2.step k5⟩
  | none =>
    rw [hb] at T R
    have T : ∀ w', Keeps w w' → Calls Tryd.prog 21 #[.slice a n cap] w' fun e w'' => ∃ b1 m c1, e = .returned (.tuple #[.slice b1 m c1, .nilIface]) ∧ Aside (w''.ownsRow w'.heap.size 5 1 (.slice b1 m c1) (upto xs xs.length).length (cellsOf (upto xs xs.length)) ∧ Keeps w' w'') :=
      fun w' hk => (T w' hk).mono fun e w'' ⟨v, h1, h2, h3⟩ => by
        obtain ⟨b1, c1, rfl, -⟩ := own_open h2
        exact ⟨b1, _, c1, h1, h2, h3⟩
    have R : ∀ w', Keeps w w' → Calls Tryd.prog 22 #[.slice a n cap] w' fun e w'' => ∃ b1 m c1, e = .returned (.tuple #[.slice b1 m c1, .int .i64 (-1)]) ∧ Aside (w''.ownsRow w'.heap.size 5 1 (.slice b1 m c1) (upto xs xs.length).length (cellsOf (upto xs xs.length)) ∧ Keeps w' w'') :=
      fun w' hk => (R w' hk).mono fun e w'' ⟨v, h1, h2⟩ => by
        obtain ⟨b1, c1, rfl, -⟩ := own_open h2.out.1
        exact ⟨b1, _, c1, h1, h2.out⟩
    have hgood := badAt_all hb
    have hrange := upto_range xs hgood xs.length
    obtain ⟨hfb, hall⟩ := reads_upto xs hgood
    have hsize : (frame.bytesOf (upto xs xs.length)).size ≤ 1000000 := by rw [frame.bytesOf_size]; have := upto_length xs xs.length; have := H.out.2.2.2; omega
    have O : ∀ {w' w'' : World} {v : Value}, w''.ownsRow w'.heap.size 5 1 v (upto xs xs.length).length (cellsOf (upto xs xs.length)) → Sl w'' v (frame.bytesOf (upto xs xs.length)) := fun h => sl_of_own h hrange
    have CH : ∀ (w' : World) (v : Value), Keeps w w' → Sl w' v (frame.bytesOf (upto xs xs.length)) → Calls Tryd.prog 18 #[v] w' fun e w'' => ∃ b1 c1, e = .returned (.tuple #[.slice b1 n c1, .nilIface]) ∧ Aside (Keeps w' w'' ∧ (0 < n → ∃ g o, b1 = some ⟨g, o, none⟩ ∧ ∀ j, j < n → w''.cell? ⟨g, o + j, none⟩ = some (.int .i64 (xs.getD j 0)))) := fun w' v hk hv => by
      have := chars_good _ v w' (H.out.1.below hk (Nat.le_refl _)) hv hfb hsize
      rw [hfb] at this
      refine this.mono fun e w'' ⟨v', h1, h2, h3⟩ => ?_
      rw [hall] at h2
      have hxl : xs.length = n := by have := H.out.2.2.2; omega
      rw [hxl] at h2
      obtain ⟨b1, c1, rfl, -, -, h4⟩ := own_open h2
      refine ⟨b1, c1, h1, h3, fun h0 => ?_⟩
      obtain ⟨g, e1, e2, e3⟩ := h4 h0
      refine ⟨g, 0, e1, fun j hj => ?_⟩
      rw [e3 j hj]
      simp [ints, List.getD_eq_getElem?_getD, hxl, hj]
    have LR : 0 < n → ∃ b off, a = some ⟨b, off, none⟩ ∧ ∀ j, j < n → w.cell? ⟨b, off + j, none⟩ = some (.int .i64 (xs.getD j 0)) := fun h0 => by
      have hl := H.out.2.2.2
      obtain ⟨a', cap', ev, h1, h2, h3⟩ := H.out.2.2.1
      simp only [Value.slice.injEq] at ev
      obtain ⟨rfl, -, -⟩ := ev
      obtain ⟨b, off, ea, hc⟩ := h3 (by omega)
      exact ⟨b, off, ea, fun j hj => hc j (by omega)⟩
    have LR : Aside (0 < n → ∃ b off, a = some ⟨b, off, none⟩ ∧ ∀ j, j < n → w.cell? ⟨b, off + j, none⟩ = some (.int .i64 (xs.getD j 0))) := LR
    clear hb hfb hall hsize hrange hgood hn hbig
    generalize frame.bytesOf (upto xs xs.length) = s at *
    generalize upto xs xs.length = l at *
    go_enter Tryd.func6, Tryd.ntmps6
    go_wp2_with fail
    refine S.mono ?_; rintro e w1 ⟨rfl, hb1⟩
    go_wp2_with fail
    refine (T w1 hb1).mono ?_; rintro e w2 ⟨b1, m1, c1, rfl, hT⟩
    have K1 : Keeps w w1 := hb1
    have K2 : Keeps w w2 := K1.step hT.out.2
    go_wp2_with fail
    refine (R w2 K2).mono ?_; rintro e w3 ⟨b2, m2, c2, rfl, hR⟩
    have K3 : Keeps w w3 := K2.step hR.out.2
    have SA : Aside (Sl w3 (.slice b1 m1 c1) s) := (O hT.out.1).below hR.out.2
    have SB : Aside (Sl w3 (.slice b2 m2 c2) s) := O hR.out.1
    have q1 : (convert 31 9 (.slice b1 m1 c1)).run Tryd.prog w3 = .ok (.string s) w3 := conv_sl SA.out
    have q2 : (convert 31 9 (.slice b2 m2 c2)).run Tryd.prog w3 = .ok (.string s) w3 := conv_sl SB.out
    go_wp2_with fail
    refine (CH w3 _ K3 SA.out).mono ?_; rintro e w4 ⟨b3, c3, rfl, hC⟩
    have K4 : Aside (Keeps w w4) := K3.step hC.out.1
    have LC : Aside (0 < n → ∃ b off, a = some ⟨b, off, none⟩ ∧ ∀ j, j < n → w4.cell? ⟨b, off + j, none⟩ = some (.int .i64 (xs.getD j 0))) := fun h0 => by
      have hl := H.out.2.2.2
      obtain ⟨b, off, ea, hc⟩ := LR.out h0
      exact ⟨b, off, ea, fun j hj => by rw [K4.out.cell (lt_of_cell (hc j hj))]; exact hc j hj⟩
    clear q1 q2 K2 K3 K1 hb1 CH T R O S
    go_wp2_with fail
    go_loopg [66] n (fun g s wr => ∃ (k : Nat), s = .int .i64 k ∧ g + k = n ∧ Aside (Below w4.heap.size w4 wr))
    case atStart => exact ⟨0, rfl, rfl, Below.refl _ _⟩
    case round =>
      obtain ⟨k, rfl, hg, hA⟩ := hrel
      by_cases hlt : k < n
      · obtain ⟨b, off, rfl, hc⟩ := LC.out (by omega)
        obtain ⟨g3, o3, rfl, hd⟩ := hC.out.2 (by omega)
        have y0 : (0 : Int) ≤ (k : Int) := by omega
        have y1 : (k : Int) < (n : Int) := by omega
        have e1 : wr.cell? ⟨b, off + k, none⟩ = some (.int .i64 (xs.getD k 0)) := by rw [hA.out.cell (lt_of_cell (hc k hlt))]; exact hc k hlt
        have e2 : wr.cell? ⟨g3, o3 + k, none⟩ = some (.int .i64 (xs.getD k 0)) := by rw [hA.out.cell (lt_of_cell (hd k hlt))]; exact hd k hlt
        generalize xs.getD k 0 = x at e1 e2
        clear hc hd
        go_wp2_with fail
        go_quiet (fail)
        go_wp2_with fail
        go_roundg (gk - 1)
        case measure => omega
        case rel => exact ⟨k + 1, by go_num, by omega, below_drewN hA.out nq⟩
      · have hk : k = n := by omega
        subst hk
        have y1 : ¬ (k : Int) < (k : Int) := by omega
        go_wp2_with fail
        go_ret
        exact ⟨rfl, K4.out.trans (hA.out.mono K4.out.size)⟩
end Go.Proofs.YtgoicbgoelaomaaDoor.utfText
