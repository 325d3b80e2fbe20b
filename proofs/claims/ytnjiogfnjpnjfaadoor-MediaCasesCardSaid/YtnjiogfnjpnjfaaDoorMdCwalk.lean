/- The law on letters and blanks of kinds of content: for any input it returns true. -/
import Derived.Test.YtnjiogfnjpnjfaaDoorMdSpeaks
import Derived.Test.YtnjiogfnjpnjfaaDoorMdText
import Derived.Test.YtnjiogfnjpnjfaaDoorMdSame
import Derived.Test.YtnjiogfnjpnjfaaDoorMdUpper
import Derived.Test.YtnjiogfnjpnjfaaDoorMdBox
import Derived.Deep.DeepCutAuto
import Derived.Deep.RegionWith
import Derived.Deep.LoopGhost
set_option linter.unusedSimpArgs false
set_option linter.unusedVariables false
namespace Go.Proofs.YtnjiogfnjpnjfaaDoor.mediaCases
open Go.RowKit Go.Proofs.YtnjiogfnjpnjfaaDoor.errs Go.Proofs.YtnjiogfnjpnjfaaDoor.media

def padL : List UInt8 := [32, 9, 32, 9, 32, 9, 32, 9]
theorem padBlank : ∀ r : Fin 8, ∀ x ∈ padL.take r.val, isBl x = true := by decide +kernel
theorem and_seven : ∀ n : Fin 256, bits BinOp.and IntKind.u8 (n.val : Int) 7 = ((n.val % 8 : Nat) : Int) := by decide +kernel
theorem up_list (x : ByteArray) : (upS x).data.toList = x.data.toList.map upB := rfl

/-- The three blocks that a round lays: the parameter, the one that bears its value, and its kind. -/
def three (w : World) (N V : ByteArray) (H : Bool) : World :=
  ((w.alloc (.cells #[.string N, .string V, .bool H] 44)).alloc (.cells #[.string ⟨#[110]⟩, .string V, .bool true] 44)).alloc (.cells #[.string ⟨#[97]⟩, .string ⟨#[98]⟩, .slice (some ⟨w.heap.size + 1, 0, none⟩) 1 1] 24)
theorem three_keeps (w : World) (N V : ByteArray) (H : Bool) : Below w.heap.size w (three w N V H) := chain (chain (up _ _) (up _ _)) (up _ _)
theorem three_cells (w w' : World) (N V : ByteArray) (H : Bool) (hb : Below (three w N V H).heap.size (three w N V H) w') :
    w'.cell? ⟨w.heap.size, 0, none⟩ = some (.string N) ∧ Box w' (w.heap.size + 1 + 1) ⟨#[97]⟩ ⟨#[98]⟩ (.slice (some ⟨w.heap.size + 1, 0, none⟩) 1 1) ∧ ItemsIn w' (.slice (some ⟨w.heap.size + 1, 0, none⟩) 1 1) [⟨⟨#[110]⟩, V, true⟩] := by
  have e1 : (w.alloc (.cells #[.string N, .string V, .bool H] 44)).heap.size = w.heap.size + 1 := by simp
  have k3 : Below (three w N V H).heap.size (three w N V H) w' := hb
  have k1 : Below (w.alloc (.cells #[.string N, .string V, .bool H] 44)).heap.size (w.alloc (.cells #[.string N, .string V, .bool H] 44)) w' := chain (chain (up _ _) (up _ _)) k3
  refine ⟨?_, ?_, ?_⟩
  · exact (k1.cell (p := ⟨w.heap.size, 0, none⟩) (by simp)).trans (by rw [World.cell?_alloc_at _ _ _ _ rfl]; rfl)
  · have := (Box.new ((w.alloc (.cells #[.string N, .string V, .bool H] 44)).alloc (.cells #[.string ⟨#[110]⟩, .string V, .bool true] 44)) ⟨#[97]⟩ ⟨#[98]⟩ (.slice (some ⟨w.heap.size + 1, 0, none⟩) 1 1) 24).below k3
    rwa [show ((w.alloc (.cells #[.string N, .string V, .bool H] 44)).alloc (.cells #[.string ⟨#[110]⟩, .string V, .bool true] 44)).heap.size = w.heap.size + 1 + 1 by simp] at this
  · refine ⟨some ⟨w.heap.size + 1, 0, none⟩, 1, rfl, Nat.le_refl _, by omega, fun _ => ⟨w.heap.size + 1, 0, rfl, fun j hj => ?_⟩⟩
    obtain rfl : j = 0 := by simpa using hj
    have A : ItAt ((w.alloc (.cells #[.string N, .string V, .bool H] 44)).alloc (.cells #[.string ⟨#[110]⟩, .string V, .bool true] 44)) (w.heap.size + 1) 0 ⟨⟨#[110]⟩, V, true⟩ := by
      rw [← e1]
      exact ⟨by rw [World.cell?_alloc_at _ _ _ _ rfl]; rfl, by rw [World.cell?_alloc_at _ _ _ _ rfl]; rfl, by rw [World.cell?_alloc_at _ _ _ _ rfl]; rfl⟩
    exact (A.below (up _ _)).below k3

set_option maxRecDepth 100000 in
set_option maxHeartbeats 4000000 in
theorem main (s : ByteArray) (n : Nat) (hn : n < 256) (hs : s.size ≤ 400) (w : World) :
    Calls Tryd.prog 5 #[.string s, .int .u8 n] w fun e w' => e = .returned (.bool true) ∧ Below w.heap.size w w' := by
  have S := speaks_any w
  have P0 := fun w => parse_any s (by omega) w
  have x1 : ¬ (400 : Int) < (s.size : Int) := by omega
  cases ho : mediaOf s with
  | bad k a =>
    rw [ho] at P0
    simp only [MediaOut, tOf, uOf, psOf, ErrIs] at P0
    clear ho hn
    go_enter Tryd.func5, Tryd.ntmps5
    go_wp2_with fail
    refine S.mono ?_; rintro e w1 ⟨rfl, hb⟩
    have K1 := Lib.hid hb
    clear hb S
    go_wp2_with fail
    refine (P0 _).mono ?_; rintro e w2 ⟨ad, nn, c, x, rfl, -, ⟨fb, rfl, -⟩, hb⟩
    have K2 : Hid (Below w.heap.size w w2) := chain K1.out hb
    clear hb K1 P0
    go_wp2_with fail
    go_ret
    exact ⟨rfl, K2.out.alloc K2.out.size _⟩
  | good t u ps =>
    rw [ho] at P0
    obtain ⟨z1, z2, z3, z4⟩ := good_sizes ho
    simp only [MediaOut, tOf, uOf, psOf, ErrIs] at P0
    obtain ⟨tx, htx⟩ : ∃ tx, Hid (T (textL t u ps) = tx) := ⟨_, rfl⟩
    have TT := fun ad n c w h hn => text_any t u ad n c ps w h hn (by omega) (by omega) (fun p hp => ⟨by have := (z4 p hp).1; omega, by have := (z4 p hp).2; omega⟩)
    rw [htx.out] at TT
    obtain ⟨r, hr⟩ : ∃ r, n % 8 = r := ⟨_, rfl⟩
    have hr8 : r < 8 := by omega
    have AND : bits BinOp.and IntKind.u8 (n : Int) 7 = (r : Int) := by rw [← hr]; exact and_seven ⟨n, hn⟩
    have s0 : ∀ w, (Instr.slice 9 (.string ⟨#[32, 9, 32, 9, 32, 9, 32, 9]⟩) none (some (.int .u8 r)) none).run Tryd.prog w = .ok (.string (T (padL.take r))) w := fun w => by
      rw [run_slice_string_to_if (h := Tryd.underlying9), if_pos (by show 0 ≤ (r : Int) ∧ (r : Int) ≤ 8; omega)]
      show Result.ok (Value.string ((T padL).extract 0 r)) w = _
      rw [T_cut]; rfl
    have hPl : (T (padL.take r)).data.toList = padL.take r := rfl
    have hPs : (T (padL.take r)).size ≤ 8 := by rw [T_size, List.length_take]; show min r 8 ≤ 8; omega
    have PBl : Blank (padL.take r) := padBlank ⟨r, hr8⟩
    have BK := fun h => media_back ho (U := List.map upB) (pre := padL.take r) (a := padL.take r) (b := padL.take r) (c := padL.take r) (fun x hx => hx.great) PBl PBl PBl PBl h
    have U1 := fun w => upper_any t (by omega) w
    have U2 := fun w => upper_any u (by omega) w
    have hu1 := upS_size t
    have hu2 := upS_size u
    obtain ⟨hk, hhk⟩ : ∃ hk, Hid (kindL (List.map upB) (padL.take r) (padL.take r) (padL.take r) (padL.take r) t.data.toList u.data.toList ps = hk) := ⟨_, rfl⟩
    rw [hhk.out] at BK
    have HK : Hid (hk = ((padL.take r) ++ ((upS t).data.toList ++ 47 :: (upS u).data.toList)) ++ parsL (List.map upB) (padL.take r) (padL.take r) (padL.take r) ps) := by
      show _ = _
      rw [← hhk.out]
      unfold kindL
      rw [up_list, up_list]
      simp
    have BKh := Lib.hid BK
    obtain ⟨pl, hpl⟩ : ∃ pl, Hid (padL.take r = pl) := ⟨_, rfl⟩
    rw [hpl.out] at s0 hPl hPs HK
    obtain ⟨P, hP⟩ : ∃ P, Hid (T pl = P) := ⟨_, rfl⟩
    rw [hP.out] at s0 hPl hPs
    have HPL := Lib.hid hPl
    have hz := Lib.hid z3
    have HZ4 := Lib.hid z4
    clear ho hhk htx hr hn BK PBl hPl z3 z4
    have HU1 : Hid ((upS t).size ≤ 100) := by show _ ≤ _; omega
    have HU2 : Hid ((upS u).size ≤ 100) := by show _ ≤ _; omega
    have u1s : (upS t).size ≤ 100 := HU1.out
    have u2s : (upS u).size ≤ 100 := HU2.out
    clear hu1 hu2
    obtain ⟨X1, hX1⟩ : ∃ X1, Hid (upS t = X1) := ⟨_, rfl⟩
    obtain ⟨X2, hX2⟩ : ∃ X2, Hid (upS u = X2) := ⟨_, rfl⟩
    have HK := HK.out
    rw [hX1.out] at U1 u1s HK
    rw [hX2.out] at U2 u2s HK
    replace HK := Lib.hid HK
    have UP := fun x (hx : ByteArray.size x ≤ 1000) w => upper_any x (by omega) w
    clear hX1 hX2 HU1 HU2
    have CU1 := U1
    have CU2 := U2
    clear U1 U2
    obtain ⟨U1, rfl⟩ : ∃ U1, U1 = X1 := ⟨_, rfl⟩
    obtain ⟨U2, rfl⟩ : ∃ U2, U2 = X2 := ⟨_, rfl⟩
    have z0a : ¬ 9223372036854775807 < P.size + U1.size := by (try simp only [ByteArray.size_append]); show ¬ _ < P.size + U1.size; omega
    have z0b : ¬ 9223372036854775807 < P.size + U1.size := by show ¬ _ < P.size + U1.size; omega
    have z0c : ¬ 9223372036854775807 < P.size + U1.size := by omega
    have z1a : ¬ 9223372036854775807 < (P ++ U1).size + (⟨#[47]⟩ : ByteArray).size := by (try simp only [ByteArray.size_append]); show ¬ _ < P.size + U1.size + 1; omega
    have z1b : ¬ 9223372036854775807 < P.size + U1.size + (⟨#[47]⟩ : ByteArray).size := by show ¬ _ < P.size + U1.size + 1; omega
    have z1c : ¬ 9223372036854775807 < P.size + U1.size + 1 := by omega
    have z2a : ¬ 9223372036854775807 < ((P ++ U1) ++ (⟨#[47]⟩ : ByteArray)).size + U2.size := by (try simp only [ByteArray.size_append]); show ¬ _ < P.size + U1.size + 1 + U2.size; omega
    have z2b : ¬ 9223372036854775807 < P.size + U1.size + (⟨#[47]⟩ : ByteArray).size + U2.size := by show ¬ _ < P.size + U1.size + 1 + U2.size; omega
    have z2c : ¬ 9223372036854775807 < P.size + U1.size + 1 + U2.size := by omega
    go_enter Tryd.func5, Tryd.ntmps5
    go_wp2_with fail
    refine S.mono ?_; rintro e w1 ⟨rfl, hb⟩
    have K1 := Lib.hid hb
    clear hb S
    go_wp2_with fail
    refine (P0 _).mono ?_; rintro e w2 ⟨ad, m, c, x, rfl, hI, rfl, hb⟩
    have K2 : Hid (Below w.heap.size w w2) := chain K1.out hb
    have I2 := Lib.hid hI.in
    have HN := Lib.hid hI.in.len.1
    have B2 : Hid (Box (w2.alloc (.cells #[.string t, .string u, .slice ad m c] 24)) w2.heap.size t u (.slice ad m c)) := Box.new _ _ _ _ _
    have KM : Hid (Keeps w2 (w2.alloc (.cells #[.string t, .string u, .slice ad m c] 24))) := up _ _
    have CT := TT ad m c _ (I2.out.below KM.out) (by have := hz.out; have := HN.out; omega)
    clear hb K1 hI P0 TT
    go_wp2_with fail
    refine CT.mono ?_; rintro e w3 ⟨rfl, hb⟩
    have K3 : Hid (Keeps w2 w3) := chain KM.out hb
    have B3 := Lib.hid (B2.out.below hb)
    clear hb KM B2 CT
    by_cases hbig : 400 < tx.size
    · have y1 : (400 : Int) < (tx.size : Int) := by omega
      clear hbig
      go_wp2_with fail
      go_ret
      exact ⟨rfl, chain K2.out K3.out⟩
    have y1 : ¬ (400 : Int) < (tx.size : Int) := by omega
    clear hbig
    go_wp2_with fail
    go_cut [8] (fun s8 wx => s8 = .string (((P ++ U1) ++ (⟨#[47]⟩ : ByteArray)) ++ U2) ∧ Hid (Keeps w2 wx) ∧ Hid (Box wx w2.heap.size t u (.slice ad m c)))
    case first =>
      have B3d := Lib.hid (B3.out.below (Below.refl _ w3).drew)
      obtain ⟨d0, d1, d2⟩ := B3.out
      obtain ⟨d0', d1', d2'⟩ := B3d.out
      go_region_with (first
        | (go_at_call_of 20 t; refine (CU1 _).mono ?_; rintro e wa ⟨rfl, hb1⟩; have B4 := Lib.hid (B3d.out.below hb1); obtain ⟨g0, g1, g2⟩ := B4.out)
        | (go_at_call_of 20 u; refine (CU2 _).mono ?_; rintro e wb ⟨rfl, hb2⟩))
      all_goals go_wp2_with fail
      all_goals go_meet
      all_goals exact ⟨rfl, chain (chain K3.out ((Below.refl _ w3).drew.trans hb1)) hb2, B4.out.below hb2⟩
    case rest =>
      obtain ⟨rfl, hK, hB⟩ := hcut
      obtain ⟨tt0, htt0⟩ : ∃ tt0, Hid ((((P ++ U1) ++ (⟨#[47]⟩ : ByteArray)) ++ U2) = tt0) := ⟨_, rfl⟩
      rw [htt0.out]
      have hsz0 : Hid (tt0.size ≤ 300) := by
        show _ ≤ _
        rw [← htt0.out]
        simp only [ByteArray.size_append]
        show P.size + U1.size + 1 + U2.size ≤ 300
        omega
      have htl0 : Hid (tt0.data.toList ++ parsL (List.map upB) pl pl pl ps = hk) := by
        show _ = _
        rw [HK.out, ← htt0.out]
        simp [ByteArray.data_append, HPL.out]
      have KW := hK
      have BW := hB
      obtain ⟨d0, d1, d2⟩ := hB.out
      have HSM : Hid (m = ps.length) := HN.out.symm
      have pz := hPs
      have hm8 : m ≤ 8 := by have := hz.out; have := HSM.out; omega
      clear hK hB K3 B3 HK htt0 CU1 CU2 s0 AND u1s u2s hr8 HN
      go_wp2_with fail
      go_loopg [8, 48] m (fun g a b wr => ∃ (k : Nat) (tt : ByteArray), a = .string tt ∧ b = .int .i64 k ∧ g + k = m ∧ Hid (tt.size ≤ 300 + k * 3000) ∧ Hid (tt.data.toList ++ parsL (List.map upB) pl pl pl (ps.drop k) = hk) ∧ Aside (Keeps w2 wr ∧ Box wr w2.heap.size t u (.slice ad m c)))
      case atStart => exact ⟨0, tt0, rfl, rfl, rfl, hsz0.out, htl0.out, KW.out, BW.out⟩
      case round =>
        clear KW BW d0 d1 d2 hsz0 htl0
        obtain ⟨k, tt, rfl, rfl, hg, hsz, hd, hA⟩ := hrel
        have y2 : (0 : Int) ≤ (k : Int) := by omega
        by_cases hlt : k < m
        · have y3 : (k : Int) < (m : Int) := by omega
          have hk8 : Hid (k < 8) := by show _ < _; have := hz.out; have := HSM.out; omega
          obtain ⟨bb, oo, rfl, i0, i1, i2⟩ := (I2.out.below hA.out.1).at hlt
          have hkl : k < ps.length := by rw [← HSM.out]; exact hlt
          have hit : itAt ps k = ps[k] := by unfold itAt; rw [List.getD_eq_getElem?_getD, List.getElem?_eq_getElem hkl]; rfl
          obtain ⟨n1, n2⟩ := HZ4.out (itAt ps k) (by rw [hit]; exact List.getElem_mem hkl)
          have HD : Hid (tt.data.toList ++ (parL (List.map upB) pl pl pl (itAt ps k) ++ parsL (List.map upB) pl pl pl (ps.drop (k + 1))) = hk) := by
            show _ = _
            rw [← hd.out, List.drop_eq_getElem_cons hkl, hit]
            rfl
          have UN := UP (itAt ps k).name (by omega)
          have un := upS_size (itAt ps k).name
          have lw := wr_length (itAt ps k).value.data.toList
          have ev : (itAt ps k).value.data.toList.length = (itAt ps k).value.size := Array.length_toList
          unfold parL nameL valL at HD
          rw [← up_list] at HD
          clear hkl hit hd
          generalize (itAt ps k).name = N at *
          generalize (itAt ps k).value = V at *
          generalize (itAt ps k).has = H at *
          have usz : (upS N).size ≤ 100 := by omega
          obtain ⟨E, hE⟩ : ∃ E, Hid (T (61 :: media.wr V.data.toList) = E) := ⟨_, rfl⟩
          have esz : E.size ≤ 2003 := by rw [← hE.out, T_size, List.length_cons]; omega
          obtain ⟨TX1, hTX⟩ : ∃ TX1, Hid (T (textL ⟨#[97]⟩ ⟨#[98]⟩ [⟨⟨#[110]⟩, V, true⟩]) = TX1) := ⟨_, rfl⟩
          have tl : textL ⟨#[97]⟩ ⟨#[98]⟩ [⟨⟨#[110]⟩, V, true⟩] = [97, 47, 98, 59, 32, 110] ++ (61 :: media.wr V.data.toList) := by
            rw [textL_eq]
            unfold parsL parL nameL valL
            simp
          have tsz : 6 ≤ TX1.size := by rw [← hTX.out, tl, T_size, List.length_append]; show 6 ≤ 6 + _; omega
          have s6 : ∀ w, (Instr.slice 9 (.string TX1) (some (.int .i64 6)) none none).run Tryd.prog w = .ok (.string E) w := fun w => by
            rw [run_slice_string_from_if (h := Tryd.underlying9), if_pos (by omega)]
            rw [← hTX.out, ← hE.out, tl, T_cut]
            congr 3
            rw [T_size, List.take_of_length_le (by rw [List.length_drop]; show _ - 6 ≤ _ - 6; omega)]
            rfl
          have TXX := fun (g0 : Nat) (w : World) (h : ItemsIn w (.slice (some ⟨g0, 0, none⟩) 1 1) [⟨⟨#[110]⟩, V, true⟩]) => text_any ⟨#[97]⟩ ⟨#[98]⟩ (some ⟨g0, 0, none⟩) 1 1 [⟨⟨#[110]⟩, V, true⟩] w h (by omega) (by decide) (by decide) (fun p hp => by obtain rfl := List.mem_singleton.1 hp; exact ⟨by show 1 ≤ 2000; omega, by show V.size ≤ 2000; omega⟩)
          rw [hTX.out] at TXX
          have NXL : Hid (∀ z : ByteArray, z.data.toList = pl ++ 59 :: (pl ++ ((upS N).data.toList ++ 61 :: (media.wr V.data.toList ++ pl))) → (tt ++ z).data.toList ++ parsL (List.map upB) pl pl pl (ps.drop (k + 1)) = hk) := fun z hz => by
            rw [ByteArray.data_append, Array.toList_append, hz, List.append_assoc]
            exact HD.out
          have EL : Hid (E.data.toList = 61 :: media.wr V.data.toList) := by show _ = _; rw [← hE.out]; rfl
          clear tl lw ev un HD hTX hE n1 n2 UP
          obtain ⟨U, hU⟩ : ∃ U, Hid (upS N = U) := ⟨_, rfl⟩
          rw [hU.out] at UN usz NXL
          have tsz2 : tt.size ≤ 30000 := by have h1 := hsz.out; have h2 := hk8.out; omega
          have q0a : ¬ 9223372036854775807 < P.size + (⟨#[59]⟩ : ByteArray).size := by (try simp only [ByteArray.size_append]); show ¬ _ < P.size + 1; omega
          have q0b : ¬ 9223372036854775807 < P.size + (⟨#[59]⟩ : ByteArray).size := by show ¬ _ < P.size + 1; omega
          have q0c : ¬ 9223372036854775807 < P.size + 1 := by omega
          have q1a : ¬ 9223372036854775807 < (P ++ (⟨#[59]⟩ : ByteArray)).size + P.size := by (try simp only [ByteArray.size_append]); show ¬ _ < P.size + 1 + P.size; omega
          have q1b : ¬ 9223372036854775807 < P.size + (⟨#[59]⟩ : ByteArray).size + P.size := by show ¬ _ < P.size + 1 + P.size; omega
          have q1c : ¬ 9223372036854775807 < P.size + 1 + P.size := by omega
          have q2a : ¬ 9223372036854775807 < ((P ++ (⟨#[59]⟩ : ByteArray)) ++ P).size + U.size := by (try simp only [ByteArray.size_append]); show ¬ _ < P.size + 1 + P.size + U.size; omega
          have q2b : ¬ 9223372036854775807 < P.size + (⟨#[59]⟩ : ByteArray).size + P.size + U.size := by show ¬ _ < P.size + 1 + P.size + U.size; omega
          have q2c : ¬ 9223372036854775807 < P.size + 1 + P.size + U.size := by omega
          have q3a : ¬ 9223372036854775807 < (((P ++ (⟨#[59]⟩ : ByteArray)) ++ P) ++ U).size + E.size := by (try simp only [ByteArray.size_append]); show ¬ _ < P.size + 1 + P.size + U.size + E.size; omega
          have q3b : ¬ 9223372036854775807 < P.size + (⟨#[59]⟩ : ByteArray).size + P.size + U.size + E.size := by show ¬ _ < P.size + 1 + P.size + U.size + E.size; omega
          have q3c : ¬ 9223372036854775807 < P.size + 1 + P.size + U.size + E.size := by omega
          have q4a : ¬ 9223372036854775807 < ((((P ++ (⟨#[59]⟩ : ByteArray)) ++ P) ++ U) ++ E).size + P.size := by (try simp only [ByteArray.size_append]); show ¬ _ < P.size + 1 + P.size + U.size + E.size + P.size; omega
          have q4b : ¬ 9223372036854775807 < P.size + (⟨#[59]⟩ : ByteArray).size + P.size + U.size + E.size + P.size := by show ¬ _ < P.size + 1 + P.size + U.size + E.size + P.size; omega
          have q4c : ¬ 9223372036854775807 < P.size + 1 + P.size + U.size + E.size + P.size := by omega
          have q9a : ¬ 9223372036854775807 < tt.size + (((((P ++ (⟨#[59]⟩ : ByteArray)) ++ P) ++ U) ++ E) ++ P).size := by (try simp only [ByteArray.size_append]); show ¬ _ < tt.size + (P.size + 1 + P.size + U.size + E.size + P.size); omega
          have q9b : ¬ 9223372036854775807 < tt.size + (P.size + (⟨#[59]⟩ : ByteArray).size + P.size + U.size + E.size + P.size) := by show ¬ _ < tt.size + (P.size + 1 + P.size + U.size + E.size + P.size); omega
          have q9c : ¬ 9223372036854775807 < tt.size + (P.size + 1 + P.size + U.size + E.size + P.size) := by omega
          have ZL : Hid ((((((P ++ (⟨#[59]⟩ : ByteArray)) ++ P) ++ U) ++ E) ++ P).data.toList = pl ++ 59 :: (pl ++ (U.data.toList ++ 61 :: (media.wr V.data.toList ++ pl)))) := by
            show _ = _
            simp [ByteArray.data_append, HPL.out, EL.out]
          have ZS : Hid ((tt ++ (((((P ++ (⟨#[59]⟩ : ByteArray)) ++ P) ++ U) ++ E) ++ P)).size ≤ 300 + (k + 1) * 3000) := by
            show _ ≤ _
            have h1 := hsz.out
            simp only [ByteArray.size_append]
            show tt.size + (P.size + 1 + P.size + U.size + E.size + P.size) ≤ _
            omega
          have NX := Lib.hid (NXL.out _ ZL.out)
          clear NXL EL ZL hsz hU
          have AW : Aside (Keeps w2 wr ∧ Box wr w2.heap.size t u (.slice (some ⟨bb, oo, none⟩) m c)) := hA.out
          go_wp2_with fail
          have KT := Lib.hid (three_keeps wr N V H)
          have CT := Lib.hid (fun w' h => three_cells wr w' N V H h)
          rw [show ((wr.alloc (.cells #[.string N, .string V, .bool H] 44)).alloc (.cells #[.string ⟨#[110]⟩, .string V, .bool true] 44)).alloc (.cells #[.string ⟨#[97]⟩, .string ⟨#[98]⟩, .slice (some ⟨wr.heap.size + 1, 0, none⟩) 1 1] 24) = three wr N V H from rfl]
          generalize three wr N V H = W5 at *
          have TXX := TXX (wr.heap.size + 1)
          obtain ⟨f0, ⟨f1, f2, f3⟩, fI⟩ := CT.out W5.drew (Below.refl _ W5).drew
          have FI := Lib.hid fI
          clear hA i0 i1 i2 fI
          go_region_with (first
            | (go_at_call 20; refine (UN _).mono ?_; rintro e wa ⟨rfl, hb1⟩; obtain ⟨g0, ⟨g1, g2, g3⟩, gI⟩ := CT.out wa ((Below.refl _ W5).drew.trans hb1); have GI := Lib.hid gI; clear gI)
            | (go_at_call 10; refine (TXX _ GI.out).mono ?_; rintro e wb ⟨rfl, hb2⟩))
          all_goals
            have NA : Aside (Keeps w2 wb ∧ Box wb w2.heap.size t u (.slice (some ⟨bb, oo, none⟩) m c)) := by
              have k1 : Below wr.heap.size wr wb := chain (chain KT.out ((Below.refl _ W5).drew.trans hb1)) hb2
              exact ⟨chain AW.out.1 k1, AW.out.2.below k1⟩
            clear hb1 hb2 GI AW
            go_wp2_with fail
            go_roundg (gk - 1)
            case measure => omega
            case rel => exact ⟨k + 1, _, rfl, by go_num, by omega, ZS.out, NX.out, NA.out⟩
        · have y3 : ¬ (k : Int) < (m : Int) := by omega
          have TE : Hid (tt.data.toList = hk) := by
            show _ = _
            rw [← hd.out, List.drop_eq_nil_of_le (by rw [← HSM.out]; omega)]
            exact (List.append_nil _).symm
          have hmk : m ≤ 8 := by have := hz.out; have := HSM.out; omega
          have tsz : tt.size ≤ 30000 := by have := hsz.out; omega
          have PB : ∀ w, Calls Tryd.prog 19 #[.string tt] w fun e w' => MediaOut (mediaOf tt) w e w' := fun w => parse_any tt (by omega) w
          have BK2 : Hid (tt.size ≤ 1000 → mediaOf tt = .good t u ps) := fun h => by
            have e : T hk = tt := by rw [← TE.out, T_of]
            rw [← e]
            refine BKh.out ?_
            rw [← TE.out]
            rw [show tt.data.toList.length = tt.size from Array.length_toList]
            exact h
          clear hd hsz UP
          by_cases hb2 : 1000 < tt.size
          · have y4 : (1000 : Int) < (tt.size : Int) := by omega
            clear hb2 PB BK2
            go_wp2_with fail
            go_ret
            exact ⟨rfl, chain K2.out hA.out.1.out⟩
          · have y4 : ¬ (1000 : Int) < (tt.size : Int) := by omega
            rw [BK2.out (by omega)] at PB
            simp only [MediaOut, tOf, uOf, psOf, ErrIs] at PB
            have AW : Aside (Keeps w2 wr ∧ Box wr w2.heap.size t u (.slice ad m c)) := hA.out
            clear hb2 BK2 hA
            go_wp2_with fail
            refine (PB _).mono ?_; rintro e w9 ⟨ad9, n9, c9, x9, rfl, hI, rfl, hb⟩
            have K9 : Hid (Keeps w2 w9) := chain AW.out.1 hb
            have K10 : Hid (Keeps w2 (w9.alloc (.cells #[.string t, .string u, .slice ad9 n9 c9] 24))) := chain K9.out (up _ _)
            obtain ⟨d0, d1, d2⟩ := (AW.out.2.below hb).below (up w9 (.cells #[.string t, .string u, .slice ad9 n9 c9] 24))
            obtain rfl : n9 = m := by rw [← hI.in.len.1]; exact HSM.out.symm
            have CS := same_is t u ad9 ad n9 c9 c ps _ (hI.in.below (up w9 (.cells #[.string t, .string u, .slice ad9 n9 c9] 24))) (I2.out.below K10.out) (by omega)
            clear hb hI PB AW I2
            go_wp2_with fail
            refine CS.mono ?_; rintro e w10 ⟨rfl, hb⟩
            have K11 : Hid (Keeps w2 w10) := chain K10.out hb
            clear hb
            go_wp2_with fail
            go_ret
            exact ⟨rfl, chain K2.out K11.out⟩

theorem law (s : ByteArray) (n : Int) (w : World) (hs : s.size ≤ maxLen) (hn : 0 ≤ n ∧ n ≤ 255) :
    Calls Tryd.prog 5 #[.string s, .int .u8 n] w fun e w' => e = .returned (.bool true) ∧ Below w.heap.size w w' := by
  unfold maxLen at hs
  obtain ⟨k, rfl⟩ : ∃ k : Nat, n = (k : Int) := ⟨n.toNat, by omega⟩
  by_cases hbig : 400 < s.size
  · have S := speaks_any w
    have x1 : (400 : Int) < (s.size : Int) := by omega
    clear hbig
    go_enter Tryd.func5, Tryd.ntmps5
    go_wp2_with fail
    refine S.mono ?_; rintro e w1 ⟨rfl, hb1⟩
    have K1 := Lib.hid hb1
    clear hb1 S
    go_wp2_with fail
    go_ret
    exact ⟨rfl, K1.out⟩
  · exact main s k (by omega) (by omega) w
end Go.Proofs.YtnjiogfnjpnjfaaDoor.mediaCases
