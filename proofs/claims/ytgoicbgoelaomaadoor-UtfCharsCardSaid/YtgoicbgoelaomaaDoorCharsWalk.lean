/- The walk of the law on Chars: for any bytes it returns true, and what was there stays. -/
import Derived.Test.YtgoicbgoelaomaaDoorCharsHelp
import Derived.Deep.QuietTactic
import Derived.BigQuiet
set_option linter.unusedSimpArgs false
set_option linter.unusedVariables false
namespace Go.Proofs.YtgoicbgoelaomaaDoor.utfChars
open Go.RowKit Go.Proofs.YtgoicbgoelaomaaDoor.errs Go.Proofs.YtgoicbgoelaomaaDoor.utf Go.Proofs.YtgoicbgoelaomaaDoor.umath Go.Proofs.YtgoicbgoelaomaaDoor.text Go.Proofs.YtgoicbgoelaomaaDoor.ref Go.Proofs.YtgoicbgoelaomaaDoor.chars Go.Proofs.YtgoicbgoelaomaaDoor.utfJoined

set_option maxRecDepth 100000 in
set_option maxHeartbeats 4000000 in
theorem law (a : Option Addr) (len cap : Nat) (zs : List Int) (w : World) (r1 : frame.IsRow .u8 w a len cap zs) (hH : Tabs w ∧ Laid w) :
    Calls Tryd.prog 5 #[.slice a len cap] w fun e w' => e = .returned (.bool true) ∧ Below w.heap.size w w' := by
  have S := speaks_any w hH.1 hH.2
  obtain ⟨ms, hm1, hm2, hm3, hm4⟩ := source_of_row r1
  have H : Aside (Tabs w ∧ Laid w) := hH
  have HM : Aside (ms.length = len ∧ ∀ y ∈ ms, 0 ≤ y ∧ y ≤ 255) := ⟨hm1, hm2⟩
  have HS : Aside (utfJoined.Source w a len cap (cellsOf ms)) := hm3
  have HV : Aside (Sl w (.slice a len cap) (frame.bytesOf ms)) := hm4
  clear hH r1 hm1 hm2 hm3 hm4 zs
  obtain ⟨i0, hi, hz0, hz1, hz2⟩ := info_parts infoByte
  by_cases hbig : 5000 < len
  · have x1 : (5000 : Int) < (len : Int) := by omega
    clear hbig
    go_enter Tryd.func5, Tryd.ntmps5
    go_wp2_with fail
    refine S.mono ?_; rintro e w1 ⟨rfl, hb1⟩
    go_wp2_with fail
    go_ret
    exact ⟨rfl, hb1⟩
  have x1 : (len : Int) ≤ 5000 := by omega
  have q1 : (frame.bytesOf ms).size ≤ 1000000 := by rw [frame.bytesOf_size, HM.out.1]; omega
  cases hA : firstBad (frame.bytesOf ms) with
  | some i =>
    have FA : ∀ B v w', Keeps w w' → w'.ownsRow B 5 1 v len (cellsOf ms) → Calls Tryd.prog 18 #[v] w' fun e w'' => ∃ bb, e = .returned (.tuple #[.slice none 0 0, .iface 59 (.pointer (some ⟨bb, 0, none⟩))]) ∧ Aside (FaultAt w'' (.iface 59 (.pointer (some ⟨bb, 0, none⟩))) 12 i .nilIface ∧ Keeps w' w'') := fun B v w' hk ho => by
      have := chars_bad (frame.bytesOf ms) i v w' (H.out.1.below hk (Nat.le_refl _)) (sl_of_own (owns_cast ho HM.out.1.symm rfl) HM.out.2) hA
      rw [hA] at this
      exact this.mono Failed.opened
    have FV : ∀ B v w', Keeps w w' → w'.ownsRow B 5 1 v len (cellsOf ms) → Calls Tryd.prog 19 #[v] w' fun e w'' => ∃ bb, e = .returned (.iface 59 (.pointer (some ⟨bb, 0, none⟩))) ∧ Aside (FaultAt w'' (.iface 59 (.pointer (some ⟨bb, 0, none⟩))) 12 i .nilIface ∧ Keeps w' w'') := fun B v w' hk ho => by
      have := valid_any (frame.bytesOf ms) v w' (H.out.1.below hk (Nat.le_refl _)) (sl_of_own (owns_cast ho HM.out.1.symm rfl) HM.out.2)
      rw [hA] at this
      exact this.mono Failed.opened
    have hA0 : Aside (firstBad (frame.bytesOf ms) = some i) := hA
    have hi0 : (0 : Int) ≤ (i : Int) := by omega
    clear hbig q1 hA
    go_enter Tryd.func5, Tryd.ntmps5
    go_wp2_with fail
    refine S.mono ?_; rintro e w1 ⟨rfl, hb1⟩
    have K1 : Aside (Keeps w w1) := hb1
    clear hb1
    go_wp2_with (at_builtin; refine append_any rfl _ _ rfl w1.heap.size i0 hi hz0 hz1 hz2 (.slice (some ⟨w1.heap.size, 0, none⟩) 0 0) 0 [] rfl (World.ownsRow_lit w1 #[] 0 (Nat.le_refl _) (by unfold maxLen; omega) rfl) a len cap (cellsOf ms) rfl ?c0 ?c1 ?c3 ?c4 ?c5 ?c6 ?_)
    case c0 =>
      rcases HS.out with h | ⟨ad, h1, h2⟩
      · exact .inl h
      · refine .inr ⟨ad, h1, fun j u hu => ?_⟩
        have h3 := h2 j u hu
        have h4 := (K1.out.cell (lt_of_cell h3)).trans h3
        rw [World.cell?_alloc_lt _ _ _ (lt_of_cell h4)]
        exact h4
    case c1 => rw [cellsOf_length, HM.out.1]
    case c3 => intro u hu; obtain ⟨y, -, rfl⟩ := List.mem_map.1 hu; rfl
    case c4 => unfold maxLen; omega
    case c5 => omega
    case c6 => simp
    intro v4 w4 hown4 hgrow4
    have N4 : Aside (w4.ownsRow w1.heap.size 5 1 v4 len (cellsOf ms) ∧ Keeps w1 w4) :=
      ⟨owns_cast hown4 (by omega) (by simp), ((Below.refl w1.heap.size w1).alloc (Nat.le_refl _) _).grown hgrow4 (by simp) (fun q hq => by simp [Value.ownBlock] at hq; omega)⟩
    clear hown4 hgrow4
    obtain ⟨b4, c4, rfl, -, -, hb4⟩ := own_open N4.out.1
    have B4 : Aside (0 < len → ∃ g, b4 = some ⟨g, 0, none⟩ ∧ w1.heap.size ≤ g) := fun h0 => by obtain ⟨g, e1, e2, -⟩ := hb4 h0; exact ⟨g, e1, e2⟩
    clear hb4
    have K4 : Aside (Keeps w w4) := K1.out.step N4.out.2
    go_wp2_with fail
    refine (FA _ _ _ K4.out N4.out.1).mono ?_; rintro e w5 ⟨ba, rfl, h5⟩
    have N5 : Aside (w5.ownsRow w1.heap.size 5 1 (.slice b4 len c4) len (cellsOf ms) ∧ Keeps w w5) := ⟨own_below N4.out.1 h5.out.2, K4.out.step h5.out.2⟩
    go_wp2_with fail
    refine (FV _ _ _ N5.out.2 N5.out.1).mono ?_; rintro e w6 ⟨bv, rfl, h6⟩
    go_wp2_with fail
    have N6 : Aside (w6.ownsRow w1.heap.size 5 1 (.slice b4 len c4) len (cellsOf ms) ∧ Keeps w w6) := ⟨own_below N5.out.1 h6.out.2, N5.out.2.step h6.out.2⟩
    have G6 : Aside (FaultAt w6 (.iface 59 (.pointer (some ⟨ba, 0, none⟩))) 12 i .nilIface ∧ FaultAt w6 (.iface 59 (.pointer (some ⟨bv, 0, none⟩))) 12 i .nilIface) := ⟨h5.out.1.below h6.out.2 (Nat.le_refl _), h6.out.1⟩
    have U6 : Aside (∀ g, b4 = some ⟨g, 0, none⟩ → 0 < len → ∃ n : Int, w6.cell? ⟨g, 0, none⟩ = some (.int .u8 n)) := fun g hg h0 => by
      have h := N6.out.1
      rw [hg] at h
      have hl : 0 < ms.length := by rw [HM.out.1]; exact h0
      exact ⟨ms[0], by rw [h.cellAt 0 (by omega)]; simp [cellsOf, hl]⟩
    have LT : Aside (∀ q, (Value.slice b4 len c4).ownBlock = some q → w1.heap.size ≤ q ∧ q < w4.heap.size) := N4.out.1.lt
    go_loopg [30] len (fun g s wr => ∃ (k : Nat), s = .int .i64 k ∧ g + k = len ∧ Aside ((∃ ys, wr.ownsRow w1.heap.size 5 1 (.slice b4 len c4) len ys) ∧ w6.grownBy wr (Value.slice b4 len c4).ownBlock ∧ FaultAt wr (.iface 59 (.pointer (some ⟨ba, 0, none⟩))) 12 i .nilIface ∧ FaultAt wr (.iface 59 (.pointer (some ⟨bv, 0, none⟩))) 12 i .nilIface))
    case atStart => exact ⟨0, rfl, rfl, ⟨_, N6.out.1⟩, grown_refl _ _, G6.out⟩
    case round =>
      obtain ⟨k, rfl, hg, hA⟩ := hrel
      by_cases hlt : k < len
      · obtain ⟨g, rfl, hgg⟩ := B4.out (by omega)
        obtain ⟨ys, hys⟩ := hA.out.1
        have y0 : (0 : Int) ≤ (k : Int) := by omega
        have y1 : (k : Int) < (len : Int) := by omega
        have hyl : k < ys.length := by rw [hys.1]; omega
        have e1 : wr.cell? ⟨g, 0 + k, none⟩ = some ys[k] := by
          rw [Nat.zero_add, hys.cellAt k (by omega), List.getElem?_eq_getElem hyl]
        have e2 : wr.frozen? ⟨g, 0 + k, none⟩ = false := by rw [Nat.zero_add]; exact hys.frozenAt k
        generalize ys[k] = u at e1
        have e3 := e1
        have e4 := e2
        rw [Nat.zero_add] at e3 e4
        have ST : Aside ((wr.setCell ⟨g, k, none⟩ (.int .u8 238)).ownsRow w1.heap.size 5 1 (.slice (some ⟨g, 0, none⟩) len c4) len (ys.set k (.int .u8 238)) ∧ wr.grownBy (wr.setCell ⟨g, k, none⟩ (.int .u8 238)) (some g)) := hys.stored k _
        have GR : Aside (w6.grownBy (wr.setCell ⟨g, k, none⟩ (.int .u8 238)) (some g)) := grown_trans hA.out.2.1 ST.out.2
        have HU := U6.out g rfl (by omega)
        have GF : Aside (FaultAt (wr.setCell ⟨g, k, none⟩ (.int .u8 238)) (.iface 59 (.pointer (some ⟨ba, 0, none⟩))) 12 i .nilIface ∧ FaultAt (wr.setCell ⟨g, k, none⟩ (.int .u8 238)) (.iface 59 (.pointer (some ⟨bv, 0, none⟩))) 12 i .nilIface) := ⟨fault_grown G6.out.1 GR.out HU, fault_grown G6.out.2 GR.out HU⟩
        clear hys hyl HU
        go_wp2_with fail
        go_roundg (gk - 1)
        case measure => omega
        case rel => exact ⟨k + 1, by go_num, by omega, ⟨_, by simpa using ST.out.1⟩, by exact GR.out, by exact GF.out⟩
      · obtain rfl : k = len := by omega
        have y1 : ¬ (k : Int) < (k : Int) := by omega
        have KR : Aside (Keeps w wr) := N6.out.2.grown hA.out.2.1 N6.out.2.size (fun q hq => by have := (LT.out q hq).1; have := K1.out.size; omega)
        have DR : Calls Tryd.prog 20 #[.slice a k cap] wr fun e w'' => ∃ v, e = .returned (.tuple #[v, .int .i64 i]) ∧ Keeps wr w'' := by
          have := chars_ref (frame.bytesOf ms) _ wr (HV.out.below KR.out) (by rw [frame.bytesOf_size, HM.out.1]; omega)
          rw [hA0.out] at this
          exact this
        clear N6 N5 h5 h6 LT U6 G6
        go_wp2_with fail
        refine DR.mono ?_; rintro e w7 ⟨v7, rfl, k7⟩
        have K7 : Aside (Keeps w w7) := KR.out.step k7
        have F1 : FaultAt w7 (.iface 59 (.pointer (some ⟨ba, 0, none⟩))) 12 i .nilIface := hA.out.2.2.1.below k7 (Nat.le_refl _)
        have F2 : FaultAt w7 (.iface 59 (.pointer (some ⟨bv, 0, none⟩))) 12 i .nilIface := hA.out.2.2.2.below k7 (Nat.le_refl _)
        have L7 : Laid w7 := H.out.2.below K7.out (Nat.le_refl _)
        have A1 : ∀ w', Keeps w7 w' → Calls Tryd.prog 13 #[.iface 59 (.pointer (some ⟨ba, 0, none⟩))] w' fun e w' => e = .returned (.int .i64 12) ∧ Keeps w7 w' := fun w' h => kind_keeps L7 F1 h
        have A2 : ∀ w', Keeps w7 w' → Calls Tryd.prog 14 #[.iface 59 (.pointer (some ⟨ba, 0, none⟩))] w' fun e w' => e = .returned (.int .i64 i) ∧ Keeps w7 w' := fun w' h => at_keeps L7 F1 h
        have A3 : ∀ w', Keeps w7 w' → Calls Tryd.prog 13 #[.iface 59 (.pointer (some ⟨bv, 0, none⟩))] w' fun e w' => e = .returned (.int .i64 12) ∧ Keeps w7 w' := fun w' h => kind_keeps L7 F2 h
        have A4 : ∀ w', Keeps w7 w' → Calls Tryd.prog 14 #[.iface 59 (.pointer (some ⟨bv, 0, none⟩))] w' fun e w' => e = .returned (.int .i64 i) ∧ Keeps w7 w' := fun w' h => at_keeps L7 F2 h
        clear F1 F2 L7 k7
        go_wp2_with fail
        refine (A1 _ (Keeps.refl _)).mono ?_; rintro e u1 ⟨rfl, t1⟩
        go_wp2_with fail
        refine (A2 _ t1).mono ?_; rintro e u2 ⟨rfl, t2⟩
        go_wp2_with fail
        refine (A3 _ t2).mono ?_; rintro e u3 ⟨rfl, t3⟩
        go_wp2_with fail
        refine (A4 _ t3).mono ?_; rintro e u4 ⟨rfl, t4⟩
        go_wp2_with fail
        go_ret
        exact ⟨rfl, K7.out.step t4⟩
  | none =>
    have DA : ∀ B v w', Keeps w w' → w'.ownsRow B 5 1 v len (cellsOf ms) → Calls Tryd.prog 18 #[v] w' fun e w'' => ∃ b c, e = .returned (.tuple #[.slice b (all (frame.bytesOf ms)).length c, .nilIface]) ∧ Aside (w''.ownsRow w'.heap.size 3 1 (.slice b (all (frame.bytesOf ms)).length c) (all (frame.bytesOf ms)).length (ints (all (frame.bytesOf ms))) ∧ Keeps w' w'') := fun B v w' hk ho => by
      have := chars_good (frame.bytesOf ms) v w' (H.out.1.below hk (Nat.le_refl _)) (sl_of_own (owns_cast ho HM.out.1.symm rfl) HM.out.2) hA q1
      rw [hA] at this
      refine this.mono fun e w'' ⟨v', h1, h2, h3⟩ => ?_
      obtain ⟨b, c, rfl, -⟩ := own_open h2
      exact ⟨b, c, h1, h2, h3⟩
    have DV : ∀ B v w', Keeps w w' → w'.ownsRow B 5 1 v len (cellsOf ms) → Calls Tryd.prog 19 #[v] w' fun e w'' => e = .returned .nilIface ∧ Keeps w' w'' := fun B v w' hk ho => by
      have := valid_any (frame.bytesOf ms) v w' (H.out.1.below hk (Nat.le_refl _)) (sl_of_own (owns_cast ho HM.out.1.symm rfl) HM.out.2)
      rw [hA] at this
      exact this
    have hA0 : Aside (firstBad (frame.bytesOf ms) = none) := hA
    clear hbig q1 hA
    go_enter Tryd.func5, Tryd.ntmps5
    go_wp2_with fail
    refine S.mono ?_; rintro e w1 ⟨rfl, hb1⟩
    have K1 : Aside (Keeps w w1) := hb1
    clear hb1
    go_wp2_with (at_builtin; refine append_any rfl _ _ rfl w1.heap.size i0 hi hz0 hz1 hz2 (.slice (some ⟨w1.heap.size, 0, none⟩) 0 0) 0 [] rfl (World.ownsRow_lit w1 #[] 0 (Nat.le_refl _) (by unfold maxLen; omega) rfl) a len cap (cellsOf ms) rfl ?c0 ?c1 ?c3 ?c4 ?c5 ?c6 ?_)
    case c0 =>
      rcases HS.out with h | ⟨ad, h1, h2⟩
      · exact .inl h
      · refine .inr ⟨ad, h1, fun j u hu => ?_⟩
        have h3 := h2 j u hu
        have h4 := (K1.out.cell (lt_of_cell h3)).trans h3
        rw [World.cell?_alloc_lt _ _ _ (lt_of_cell h4)]
        exact h4
    case c1 => rw [cellsOf_length, HM.out.1]
    case c3 => intro u hu; obtain ⟨y, -, rfl⟩ := List.mem_map.1 hu; rfl
    case c4 => unfold maxLen; omega
    case c5 => omega
    case c6 => simp
    intro v4 w4 hown4 hgrow4
    have N4 : Aside (w4.ownsRow w1.heap.size 5 1 v4 len (cellsOf ms) ∧ Keeps w1 w4) :=
      ⟨owns_cast hown4 (by omega) (by simp), ((Below.refl w1.heap.size w1).alloc (Nat.le_refl _) _).grown hgrow4 (by simp) (fun q hq => by simp [Value.ownBlock] at hq; omega)⟩
    clear hown4 hgrow4
    obtain ⟨b4, c4, rfl, -, -, hb4⟩ := own_open N4.out.1
    have B4 : Aside (0 < len → ∃ g, b4 = some ⟨g, 0, none⟩ ∧ w1.heap.size ≤ g) := fun h0 => by obtain ⟨g, e1, e2, -⟩ := hb4 h0; exact ⟨g, e1, e2⟩
    clear hb4
    have K4 : Aside (Keeps w w4) := K1.out.step N4.out.2
    go_wp2_with fail
    refine (DA _ _ _ K4.out N4.out.1).mono ?_; rintro e w5 ⟨b5, c5, rfl, h5⟩
    have N5 : Aside (w5.ownsRow w1.heap.size 5 1 (.slice b4 len c4) len (cellsOf ms) ∧ Keeps w w5) := ⟨own_below N4.out.1 h5.out.2, K4.out.step h5.out.2⟩
    go_wp2_with fail
    refine (DV _ _ _ N5.out.2 N5.out.1).mono ?_; rintro e w6 ⟨rfl, k6⟩
    go_wp2_with fail
    have N6 : Aside (w6.ownsRow w1.heap.size 5 1 (.slice b4 len c4) len (cellsOf ms) ∧ Keeps w w6) := ⟨own_below N5.out.1 k6, N5.out.2.step k6⟩
    have R6 : Aside (w6.ownsRow w4.heap.size 3 1 (.slice b5 (all (frame.bytesOf ms)).length c5) (all (frame.bytesOf ms)).length (ints (all (frame.bytesOf ms)))) := own_below h5.out.1 k6
    have LT : Aside (∀ q, (Value.slice b4 len c4).ownBlock = some q → w1.heap.size ≤ q ∧ q < w4.heap.size) := N4.out.1.lt
    clear k6
    go_loopg [30] len (fun g s wr => ∃ (k : Nat), s = .int .i64 k ∧ g + k = len ∧ Aside ((∃ ys, wr.ownsRow w1.heap.size 5 1 (.slice b4 len c4) len ys) ∧ w6.grownBy wr (Value.slice b4 len c4).ownBlock))
    case atStart => exact ⟨0, rfl, rfl, ⟨_, N6.out.1⟩, grown_refl _ _⟩
    case round =>
      obtain ⟨k, rfl, hg, hA⟩ := hrel
      by_cases hlt : k < len
      · obtain ⟨g, rfl, hgg⟩ := B4.out (by omega)
        obtain ⟨ys, hys⟩ := hA.out.1
        have y0 : (0 : Int) ≤ (k : Int) := by omega
        have y1 : (k : Int) < (len : Int) := by omega
        have hyl : k < ys.length := by rw [hys.1]; omega
        have e1 : wr.cell? ⟨g, 0 + k, none⟩ = some ys[k] := by
          rw [Nat.zero_add, hys.cellAt k (by omega), List.getElem?_eq_getElem hyl]
        have e2 : wr.frozen? ⟨g, 0 + k, none⟩ = false := by rw [Nat.zero_add]; exact hys.frozenAt k
        generalize ys[k] = u at e1
        have e3 := e1
        have e4 := e2
        rw [Nat.zero_add] at e3 e4
        have ST : Aside ((wr.setCell ⟨g, k, none⟩ (.int .u8 238)).ownsRow w1.heap.size 5 1 (.slice (some ⟨g, 0, none⟩) len c4) len (ys.set k (.int .u8 238)) ∧ wr.grownBy (wr.setCell ⟨g, k, none⟩ (.int .u8 238)) (some g)) := hys.stored k _
        clear hys hyl
        go_wp2_with fail
        go_roundg (gk - 1)
        case measure => omega
        case rel => exact ⟨k + 1, by go_num, by omega, ⟨_, by simpa using ST.out.1⟩, grown_trans hA.out.2 (by exact ST.out.2)⟩
      · obtain rfl : k = len := by omega
        have y1 : ¬ (k : Int) < (k : Int) := by omega
        have KR : Aside (Keeps w wr) := N6.out.2.grown hA.out.2 N6.out.2.size (fun q hq => by have := (LT.out q hq).1; have := K1.out.size; omega)
        have RR : Aside (wr.ownsRow w4.heap.size 3 1 (.slice b5 (all (frame.bytesOf ms)).length c5) (all (frame.bytesOf ms)).length (ints (all (frame.bytesOf ms)))) := R6.out.kept hA.out.2 (by
          cases hq : (Value.slice b5 (all (frame.bytesOf ms)).length c5).ownBlock with
          | none => exact .inl rfl
          | some q =>
            refine .inr fun e => ?_
            have h1 := (LT.out q e.symm).2
            have h2 := (R6.out.lt q hq).1
            omega)
        have DR : Calls Tryd.prog 20 #[.slice a k cap] wr fun e w'' => ∃ b7 c7, e = .returned (.tuple #[.slice b7 (all (frame.bytesOf ms)).length c7, .int .i64 (-1)]) ∧ Aside (w''.ownsRow wr.heap.size 3 1 (.slice b7 (all (frame.bytesOf ms)).length c7) (all (frame.bytesOf ms)).length (ints (all (frame.bytesOf ms))) ∧ Keeps wr w'') := by
          have := chars_ref (frame.bytesOf ms) _ wr (HV.out.below KR.out) (by rw [frame.bytesOf_size, HM.out.1]; omega)
          rw [hA0.out] at this
          refine this.mono fun e w'' ⟨v', h1, h2⟩ => ?_
          obtain ⟨b, c, rfl, -⟩ := own_open h2.out.1
          exact ⟨b, c, h1, h2⟩
        have BK := back ms HM.out.2 hA0.out
        have TX : ∀ w' v, Nums w' v (all (frame.bytesOf ms)) → Calls Tryd.prog 21 #[v] w' fun e w'' => ∃ b8 m8 c8, e = .returned (.tuple #[.slice b8 m8 c8, .nilIface]) ∧ Aside (Sl w'' (.slice b8 m8 c8) (frame.bytesOf ms) ∧ Keeps w' w'') := fun w' v hv => by
          have hal := all_length (frame.bytesOf ms)
          rw [frame.bytesOf_size, HM.out.1] at hal
          have := text_any _ v w' hv (by omega)
          rw [BK.1] at this
          refine this.mono fun e w'' ⟨v', h1, h2, h3⟩ => ?_
          rw [BK.2] at h2
          obtain ⟨b, c, rfl, -⟩ := own_open h2
          exact ⟨b, _, c, h1, sl_of_own h2 HM.out.2, h3⟩
        have HN : Aside (∀ (w' : World) B v, w'.ownsRow B 3 1 v (all (frame.bytesOf ms)).length (ints (all (frame.bytesOf ms))) → Nums w' v (all (frame.bytesOf ms))) := fun w' B v h => nums_of_own h
        have hLb : (all (frame.bytesOf ms)).length ≤ 5000 := by have := all_length (frame.bytesOf ms); rw [frame.bytesOf_size, HM.out.1] at this; omega
        clear BK LT R6 N6 N5 h5
        generalize all (frame.bytesOf ms) = xs at *
        obtain ⟨L, hL⟩ : ∃ L, Hid (xs.length = L) := ⟨_, rfl⟩
        rw [hL.out] at DR hLb
        have hLi : (L : Int) ≤ 5000 := by omega
        simp only [hL.out]
        go_wp2_with fail
        refine DR.mono ?_; rintro e w7 ⟨b7, c7, rfl, h7⟩
        go_wp2_with fail
        have NL : Nums w7 (.slice b5 L c5) xs := by
          have h := HN.out w7 w4.heap.size (.slice b5 xs.length c5) (own_below RR.out h7.out.2)
          rwa [hL.out] at h
        have NW : Nums w7 (.slice b7 L c7) xs := by
          have h := h7.out.1
          rw [← hL.out] at h
          have := HN.out w7 wr.heap.size (.slice b7 xs.length c7) h
          rwa [hL.out] at this
        have K7 : Aside (Keeps w w7) := KR.out.step h7.out.2
        have CL : Aside (∀ {v : Option Addr} {c : Nat}, Nums w7 (.slice v L c) xs → 0 < L → ∃ b o, v = some ⟨b, o, none⟩ ∧ ∀ j, j < L → w7.cell? ⟨b, o + j, none⟩ = some (.int .i64 (xs.getD j 0))) := fun {v} {c} h h0 => by
          obtain ⟨a', cap', ev, -, -, h3⟩ := h
          simp only [Value.slice.injEq] at ev
          obtain ⟨rfl, -, -⟩ := ev
          rw [hL.out] at h3
          exact h3 h0
        have NLA : Aside (Nums w7 (.slice b5 L c5) xs) := NL
        have NWA : Aside (Nums w7 (.slice b7 L c7) xs) := NW
        clear NL NW h7 RR DR HN
        go_loopg [84] L (fun g s wr => ∃ (k : Nat), s = .int .i64 k ∧ g + k = L ∧ Aside (Below w7.heap.size w7 wr))
        case atStart => exact ⟨0, rfl, rfl, Below.refl _ _⟩
        case round =>
          obtain ⟨q, rfl, hgq, hQ⟩ := hrel
          by_cases hltq : q < L
          · obtain ⟨g5, o5, rfl, hd⟩ := CL.out NLA.out (by omega)
            obtain ⟨g7, o7, rfl, he⟩ := CL.out NWA.out (by omega)
            have y0 : (0 : Int) ≤ (q : Int) := by omega
            have y2 : (q : Int) < (L : Int) := by omega
            have e1 : wr.cell? ⟨g5, o5 + q, none⟩ = some (.int .i64 (xs.getD q 0)) := by rw [hQ.out.cell (lt_of_cell (hd q hltq))]; exact hd q hltq
            have e2 : wr.cell? ⟨g7, o7 + q, none⟩ = some (.int .i64 (xs.getD q 0)) := by rw [hQ.out.cell (lt_of_cell (he q hltq))]; exact he q hltq
            generalize xs.getD q 0 = x at e1 e2
            clear hd he
            go_wp2_with fail
            go_quiet (fail)
            go_wp2_with fail
            go_roundg (gk - 1)
            case measure => omega
            case rel => exact ⟨q + 1, by go_num, by omega, below_drewN hQ.out nq⟩
          · obtain rfl : q = L := by omega
            have y2 : ¬ (q : Int) < (q : Int) := by omega
            have KQ : Aside (Keeps w wr) := K7.out.step hQ.out
            have TT := TX wr _ (NLA.out.below hQ.out)
            clear TX
            generalize frame.bytesOf ms = s at *
            go_wp2_with fail
            refine TT.mono ?_; rintro e w9 ⟨b9, m9, c9, rfl, h9⟩
            have K9 : Aside (Keeps w w9) := KQ.out.step h9.out.2
            have p1 : (convert 31 9 (.slice b9 m9 c9)).run Tryd.prog w9 = .ok (.string s) w9 := conv_sl h9.out.1
            have p2 : (convert 31 9 (.slice a k cap)).run Tryd.prog w9 = .ok (.string s) w9 := conv_sl (HV.out.below K9.out)
            go_wp2_with fail
            go_ret
            exact ⟨rfl, K9.out⟩
end Go.Proofs.YtgoicbgoelaomaaDoor.utfChars
