/- The law on stars: for any input it returns true. -/
import Derived.Test.YtjijdaheabgphaaDoorGpJoin
import Derived.Test.YtjijdaheabgphaaDoorGpCls
set_option linter.unusedSimpArgs false
set_option linter.unusedVariables false
namespace Go.Proofs.YtjijdaheabgphaaDoor.globStars
open Go.RowKit Go.Proofs.YtjijdaheabgphaaDoor.errs Go.Proofs.YtjijdaheabgphaaDoor.rows Go.Proofs.YtjijdaheabgphaaDoor.utf Go.Proofs.YtjijdaheabgphaaDoor.chars Go.Proofs.YtjijdaheabgphaaDoor.gmath Go.Proofs.YtjijdaheabgphaaDoor.glref Go.Proofs.YtjijdaheabgphaaDoor.gparts Go.Proofs.YtjijdaheabgphaaDoor.gcls

theorem index_byte (p : ByteArray) (k : Nat) (h : k < p.size) : ∀ w, (Instr.index 9 (.string p) (.int .i64 k)).run Tryd.prog w = .ok (.int .u8 (p.get! k).toNat) w := fun w => by
  rw [run_index_string (h := Tryd.underlying9), dif_pos (by omega)]
  have hd : k < p.data.size := h
  show Result.ok (Value.int .u8 ((p.data[(k : Int).toNat]'hd).toNat : Int)) w = Result.ok (Value.int .u8 ((p.data[k]!).toNat : Int)) w
  rw [getElem!_pos p.data k hd]
  rfl

theorem text_ne {a b : ByteArray} (h : ¬ a = b) : (a.toList == b.toList) = false := by
  rw [beq_eq_false_iff_ne]
  intro e
  rw [ByteArray.toList_eq, ByteArray.toList_eq] at e
  exact h (ByteArray.ext (Array.toList_inj.1 e))

set_option maxRecDepth 100000 in
set_option maxHeartbeats 8000000 in
theorem law (p s : ByteArray) (at_ : Int) (fold : Bool) (w : World) (hp : p.size ≤ maxLen) (hs : s.size ≤ maxLen) (hat : (Lit.int .i64 at_).wf = true) (hT : Tabs w) :
    Calls Tryd.prog 7 #[.string p, .string s, .int .i64 at_, .bool fold] w fun e w' => e = .returned (.bool true) ∧ Below w.heap.size w w' := by
  unfold maxLen at hp hs
  have S := speaks_any w hT
  have HT := Lib.hid hT
  clear hT
  by_cases hbig : 200 < p.size
  · have x1 : (200 : Int) < (p.size : Int) := by omega
    clear hbig
    go_enter Tryd.func7, Tryd.ntmps7
    go_wp2_with fail
    refine S.mono ?_; rintro e w1 ⟨rfl, hb1⟩
    have K1 := Lib.hid hb1
    clear hb1 S
    go_wp2_with fail
    go_ret
    exact ⟨rfl, K1.out⟩
  have x1 : (p.size : Int) ≤ 200 := by omega
  by_cases hbig2 : 200 < s.size
  · have x2 : (200 : Int) < (s.size : Int) := by omega
    clear hbig hbig2
    go_enter Tryd.func7, Tryd.ntmps7
    go_wp2_with fail
    refine S.mono ?_; rintro e w1 ⟨rfl, hb1⟩
    have K1 := Lib.hid hb1
    clear hb1 S
    go_wp2_with fail
    go_ret
    exact ⟨rfl, K1.out⟩
  have x2 : (s.size : Int) ≤ 200 := by omega
  have MA : Hid (∀ (P T : ByteArray) (w' : World), P.size ≤ 1000 → T.size ≤ 1000 → Keeps w w' → Calls Tryd.prog 10 #[.string P, .string T, .bool fold] w' fun e w'' => e = .returned (.bool (matchOf fold P T)) ∧ Below w'.heap.size w' w'') := fun P T w' h1 h2 h => match_any fold P T (by omega) (by omega) w' (HT.out.below h (Nat.le_refl _))
  have LA : Hid (∀ w', Calls Tryd.prog 14 #[.string s] w' fun e w'' => e = .returned (.string (leadOf s)) ∧ Below w'.heap.size w' w'') := fun w' => lead_any s (by omega) w'
  have B1 := Lib.hid hbig
  have B2 := Lib.hid hbig2
  obtain ⟨n, hn⟩ : ∃ n, Hid (p.size = n) := ⟨_, rfl⟩
  clear hbig hbig2
  go_enter Tryd.func7, Tryd.ntmps7
  go_wp2_with fail
  refine S.mono ?_; rintro e w1 ⟨rfl, hb1⟩
  have K1 := Lib.hid hb1
  clear hb1 S
  go_wp2_with fail
  go_loopg [9] n (fun g t wr => ∃ k : Nat, t = .int .i64 k ∧ g + k = n ∧ Aside (Below w.heap.size w wr))
  case atStart => exact ⟨0, rfl, rfl, K1.out⟩
  case round =>
    obtain ⟨k, rfl, hg, hA⟩ := hrel
    by_cases hlt : k < n
    · have hkp : k < p.size := by rw [hn.out]; exact hlt
      have y0 : (0 : Int) ≤ (k : Int) := by omega
      have y1 : (k : Int) < (p.size : Int) := by omega
      have ix := index_byte p k hkp
      obtain ⟨c, hc⟩ : ∃ c, Hid ((p.get! k).toNat = c) := ⟨_, rfl⟩
      rw [hc.out] at ix
      have HKP := Lib.hid hkp
      have y2 : ¬ (p.size : Int) = 0 := by omega
      clear hkp
      by_cases h42 : c = 42
      · subst h42
        go_wp2_with fail
        · have hk0 : p.extract 0 k ++ p.extract k p.size = p := by
            rw [ByteArray.extract_append_extract]
            have e1 : min 0 k = 0 := by omega
            have e2 : max k p.size = p.size := by have := HKP.out; omega
            rw [e1, e2]
            exact ByteArray.extract_zero_size
          have sz1 : (p.extract 0 k).size = k := by rw [ByteArray.size_extract]; have := HKP.out; omega
          have sz2 : (p.extract k p.size).size = p.size - k := by rw [ByteArray.size_extract]; omega
          have hb := B1.out
          have hst := match_star fold (p.extract 0 k) (p.extract k p.size) s (by
            rw [Lib.tail_get!, Nat.add_zero]
            exact hc.out) (by rw [sz2]; have := HKP.out; omega) (by rw [sz1, sz2]; omega)
          rw [hk0] at hst
          obtain ⟨M, hM⟩ : ∃ M, Hid (matchOf fold p s = M) := ⟨_, rfl⟩
          rw [hM.out] at hst
          have C1 : Hid (∀ W, Kp wr W → Calls Tryd.prog 10 #[.string (p.extract 0 k ++ ⟨#[42]⟩ ++ p.extract k p.size), .string s, .bool fold] W fun e w' => e = .returned (.bool M) ∧ Kp wr w') := fun W hW => by
            have := MA.out (p.extract 0 k ++ ⟨#[42]⟩ ++ p.extract k p.size) s W (by rw [ByteArray.size_append, ByteArray.size_append, sz1, sz2]; have : (⟨#[42]⟩ : ByteArray).size = 1 := rfl; omega) (by have := B2.out; omega) (Keeps.step hA.out hW)
            rw [show matchOf fold (p.extract 0 k ++ ⟨#[42]⟩ ++ p.extract k p.size) s = M from hst] at this
            exact this.mono fun e w' ⟨h1, h2⟩ => ⟨h1, hW.step h2⟩
          have C2 : Hid (∀ W, Kp wr W → Calls Tryd.prog 10 #[.string p, .string s, .bool fold] W fun e w' => e = .returned (.bool M) ∧ Kp wr w') := fun W hW => by
            have := MA.out p s W (by omega) (by have := B2.out; omega) (Keeps.step hA.out hW)
            rw [hM.out] at this
            exact this.mono fun e w' ⟨h1, h2⟩ => ⟨h1, hW.step h2⟩
          have sl1 : ∀ w, (Instr.slice 9 (.string p) none (some (.int .i64 k)) none).run Tryd.prog w = .ok (.string (p.extract 0 k)) w := fun w => by
            have := run_slice_string_h (P := Tryd.prog) (w := w) (t := 9) (s := p) Tryd.underlying9 .i64 k y0 (by omega)
            simpa using this
          have sl2 : ∀ w, (Instr.slice 9 (.string p) (some (.int .i64 k)) none none).run Tryd.prog w = .ok (.string (p.extract k p.size)) w := fun w => by
            have := run_slice_string_l (P := Tryd.prog) (w := w) (t := 9) (s := p) Tryd.underlying9 .i64 k y0 (by omega)
            simpa using this
          have mm : (M == M) = true := by simp
          have len1 : ¬ 9223372036854775807 < (p.extract 0 k).size + 1 := by rw [sz1]; omega
          have len2 : ¬ 9223372036854775807 < (p.extract 0 k).size + 1 + (p.extract k p.size).size := by rw [sz1, sz2]; omega
          clear hst hk0 sz1 sz2 hb hM
          generalize p.extract 0 k = A at *
          generalize p.extract k p.size = R at *
          refine cq_region (by kernel_rfl) (by kernel_rfl) ?_
          iterate 10 (refine cq_op rfl ?_; apply Exists.intro; refine ⟨fun W hW => ?_, ?_⟩; (focus (go_simp; with_reducible rfl)); simp only [Act.put, List.setIfInBounds_toArray, List.set_cons_zero, List.set_cons_succ])
          (refine cq_call rfl _ _ (.bool M) ?_ C1.out ?_; (focus (intro W; go_simp; done)); simp only [Act.put, List.setIfInBounds_toArray, List.set_cons_zero, List.set_cons_succ])
          iterate 3 (refine cq_op rfl ?_; apply Exists.intro; refine ⟨fun W hW => ?_, ?_⟩; (focus (go_simp; with_reducible rfl)); simp only [Act.put, List.setIfInBounds_toArray, List.set_cons_zero, List.set_cons_succ])
          (refine cq_call rfl _ _ (.bool M) ?_ C2.out ?_; (focus (intro W; go_simp; done)); simp only [Act.put, List.setIfInBounds_toArray, List.set_cons_zero, List.set_cons_succ])
          iterate 2 (refine cq_op rfl ?_; apply Exists.intro; refine ⟨fun W hW => ?_, ?_⟩; (focus (go_simp; with_reducible rfl)); simp only [Act.put, List.setIfInBounds_toArray, List.set_cons_zero, List.set_cons_succ])
          refine wpQuiet_nil ?_
          intro w8 hw8
          go_wp2_with fail
          go_ret
          exact ⟨rfl, Keeps.step hA.out hw8⟩
        · go_roundg (gk - 1)
          case measure => omega
          case rel => exact ⟨k + 1, by go_num, by omega, hA.out⟩
      · have e1 : ((c : Int) == 42) = false := beq_eq_false_iff_ne.2 (by omega)
        clear h42
        go_wp2_with fail
        go_roundg (gk - 1)
        case measure => omega
        case rel => exact ⟨k + 1, by go_num, by omega, hA.out⟩
    · obtain rfl : k = n := by omega
      have y1 : ¬ (k : Int) < (p.size : Int) := by have := hn.out; omega
      have hs2 : s.size ≤ 1000000 := by have := B2.out; omega
      obtain ⟨v3, W3, hv3, hs3⟩ := bytes_new s hs2 wr
      have hv3 := hv3.out
      have K3 : Aside (Keeps w W3) := Keeps.step hA.out hs3.out.2
      have M0 : Hid (leadOf s = s → matchOf fold s s = (firstBad s).isNone) := match_self fold s (by have := B2.out; omega)
      cases hf : firstBad s with
      | none =>
        have C3 := chars_right hf v3 W3 hs3.out.1 hs2
        rw [hf] at M0
        clear hs3 hf
        go_wp2_with fail
        refine C3.mono ?_; rintro e w4 ⟨x4, rfl, h4⟩
        have K4 : Aside (Keeps w w4) := K3.out.step h4.out.2
        clear h4 K3 C3 hv3
        go_wp2_with fail
        refine (LA.out _).mono ?_; rintro e w5 ⟨rfl, h5⟩
        have K5 : Aside (Keeps w w5) := K4.out.step h5
        clear h5 K4
        by_cases hl : leadOf s = s
        · have C5 := MA.out s s w5 (by have := B2.out; omega) (by have := B2.out; omega) K5.out
          rw [M0.out hl] at C5
          rw [hl]
          clear hl
          go_wp2_with fail
          refine C5.mono ?_; rintro e w6 ⟨rfl, h6⟩
          have K6 : Aside (Keeps w w6) := K5.out.step h6
          clear h6
          go_wp2_with fail
          go_ret
          exact ⟨rfl, K6.out⟩
        · have hn := text_ne hl
          generalize leadOf s = l at *
          clear hl
          go_wp2_with fail
          go_ret
          exact ⟨rfl, K5.out⟩
      | some i =>
        have C3 := chars_wrong hf v3 W3 hs3.out.1 hs2
        rw [hf] at M0
        clear hs3 hf
        go_wp2_with fail
        refine C3.mono ?_; rintro e w4 ⟨x4, rfl, h4⟩
        have K4 : Aside (Keeps w w4) := K3.out.step h4
        clear h4 K3 C3 hv3
        have yi : ¬ (i : Int) < 0 := by omega
        go_wp2_with fail
        refine (LA.out _).mono ?_; rintro e w5 ⟨rfl, h5⟩
        have K5 : Aside (Keeps w w5) := K4.out.step h5
        clear h5 K4
        by_cases hl : leadOf s = s
        · have C5 := MA.out s s w5 (by have := B2.out; omega) (by have := B2.out; omega) K5.out
          rw [M0.out hl] at C5
          rw [hl]
          clear hl
          go_wp2_with fail
          refine C5.mono ?_; rintro e w6 ⟨rfl, h6⟩
          have K6 : Aside (Keeps w w6) := K5.out.step h6
          clear h6
          go_wp2_with fail
          go_ret
          exact ⟨rfl, K6.out⟩
        · have hn := text_ne hl
          generalize leadOf s = l at *
          clear hl
          go_wp2_with fail
          go_ret
          exact ⟨rfl, K5.out⟩
end Go.Proofs.YtjijdaheabgphaaDoor.globStars
