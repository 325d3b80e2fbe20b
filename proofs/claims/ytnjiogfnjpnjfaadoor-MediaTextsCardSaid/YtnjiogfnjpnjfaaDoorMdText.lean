/- media.Text. -/
import Derived.Test.YtnjiogfnjpnjfaaDoorMdWritten
import Derived.Test.YtnjiogfnjpnjfaaDoorMdPars
import Derived.Deep.RegionWith
set_option linter.unusedSimpArgs false
set_option linter.unusedVariables false
namespace Go.Proofs.YtnjiogfnjpnjfaaDoor.media
open Go.RowKit Go.Proofs.YtnjiogfnjpnjfaaDoor.errs Go.Proofs.YtnjiogfnjpnjfaaDoor.build

/-- A kind's text. -/
def textL (t u : ByteArray) (ps : List It) : List UInt8 := kindL id [] [] [32] [] t.data.toList u.data.toList ps
theorem textL_eq (t u : ByteArray) (ps : List It) : textL t u ps = (t.data.toList ++ 47 :: u.data.toList) ++ parsL id [] [32] [] ps := by
  unfold textL kindL
  simp
def oneL (p : It) : ByteArray := ((⟨#[59, 32]⟩ ++ p.name) ++ ⟨#[61]⟩) ++ T (wr p.value.data.toList)
theorem oneL_eq (p : It) : (oneL p).data.toList = parL id [] [32] [] p := by
  unfold oneL parL nameL valL
  simp [ByteArray.data_append, T]
theorem parsL_drop (ps : List It) (i : Nat) (h : i < ps.length) : parsL id [] [32] [] (ps.drop i) = (oneL (itAt ps i)).data.toList ++ parsL id [] [32] [] (ps.drop (i + 1)) := by
  rw [List.drop_eq_getElem_cons h]
  unfold parsL
  rw [List.flatMap_cons, ← oneL_eq]
  congr 2
  unfold itAt
  rw [List.getD_eq_getElem?_getD, List.getElem?_eq_getElem h]; rfl
theorem escB_length (x : UInt8) : (escB x).length ≤ 2 := by
  unfold escB
  split
  · decide
  · split
    · decide
    · rw [List.length_singleton]; omega
theorem esc_length : ∀ v : List UInt8, (esc v).length ≤ 2 * v.length
  | [] => Nat.zero_le _
  | x :: v => by
    have e2 : esc (x :: v) = escB x ++ esc v := rfl
    have h1 := escB_length x
    have h2 := esc_length v
    rw [e2, List.length_append, List.length_cons]
    omega
theorem wr_length (v : List UInt8) : (wr v).length ≤ 2 * v.length + 2 := by
  have h := esc_length v
  unfold wr
  split
  · omega
  · rw [List.length_cons, List.length_append, List.length_singleton]
    omega

set_option maxRecDepth 100000 in
set_option maxHeartbeats 2000000 in
theorem text_any (t u : ByteArray) (ad : Option Addr) (n c : Nat) (ps : List It) (w : World) (h : ItemsIn w (.slice ad n c) ps) (hn : n ≤ 1000) (ht : t.size ≤ 2000) (hu : u.size ≤ 2000) (hv : ∀ p ∈ ps, p.name.size ≤ 2000 ∧ p.value.size ≤ 2000) :
    Calls Tryd.prog 10 #[.agg #[.string t, .string u, .slice ad n c]] w fun e w' => e = .returned (.string (T (textL t u ps))) ∧ Below w.heap.size w w' := by
  obtain ⟨res, hres⟩ : ∃ res, Hid (textL t u ps = res) := ⟨_, rfl⟩
  rw [hres.out]
  have hl := h.len.1
  have HL := Lib.hid hl
  have HI := Lib.hid h
  have z1 : ¬ 9223372036854775807 < t.size + (⟨#[47]⟩ : ByteArray).size := by show ¬ _ < _ + 1; omega
  have z2 : ¬ 9223372036854775807 < (t ++ (⟨#[47]⟩ : ByteArray)).size + u.size := by rw [ByteArray.size_append]; show ¬ _ < _ + 1 + _; omega
  have hX : (t ++ (⟨#[47]⟩ : ByteArray) ++ u).data.toList = t.data.toList ++ 47 :: u.data.toList := by simp [ByteArray.data_append]
  have hXs : (t ++ (⟨#[47]⟩ : ByteArray) ++ u).size ≤ 4001 := by rw [ByteArray.size_append, ByteArray.size_append]; show _ + 1 + _ ≤ _; omega
  have HX := Lib.hid hX
  have HXS := Lib.hid hXs
  clear hX hXs h hl
  have WT := written_any
  obtain ⟨b, hb⟩ : ∃ b, Hid (w.heap.size + 1 = b) := ⟨_, rfl⟩
  obtain ⟨W, hW⟩ : ∃ W, w.alloc (.cells #[.string t, .string u, .slice ad n c] 24) = W := ⟨_, rfl⟩
  have HB : Hid (Below w.heap.size w W) := by show Below _ _ _; rw [← hW]; exact (Below.refl _ _).alloc (Nat.le_refl _) _
  have WS : Hid (W.heap.size = b) := by show _ = _; rw [← hW, ← hb.out]; simp
  have hlt : Hid (w.heap.size < b) := by show _ < _; rw [← hb.out]; omega
  have CW : Hid (∀ w', Below b W w' → w'.cell? ⟨w.heap.size, 0, none⟩ = some (.string t) ∧ w'.cell? ⟨w.heap.size, 1, none⟩ = some (.string u) ∧ w'.cell? ⟨w.heap.size, 2, none⟩ = some (.slice ad n c)) := fun w' h3 => by
    refine ⟨?_, ?_, ?_⟩
    · rw [h3.cell (p := ⟨w.heap.size, 0, none⟩) hlt.out, ← hW, World.cell?_alloc_at _ _ _ _ rfl]; rfl
    · rw [h3.cell (p := ⟨w.heap.size, 1, none⟩) hlt.out, ← hW, World.cell?_alloc_at _ _ _ _ rfl]; rfl
    · rw [h3.cell (p := ⟨w.heap.size, 2, none⟩) hlt.out, ← hW, World.cell?_alloc_at _ _ _ _ rfl]; rfl
  have HW := Lib.hid hW
  have BD : Hid (Bld b b [] (W.alloc (.cells #[.pointer none, .slice none 0 0] 52))) := by
    have := fresh_builder (B := W.heap.size) (Below.refl W.heap.size W) (Nat.le_refl _)
    rw [WS.out] at this
    exact this
  have BS : Hid (Below b W (W.alloc (.cells #[.pointer none, .slice none 0 0] 52)) ∧ b ≤ (W.alloc (.cells #[.pointer none, .slice none 0 0] 52)).heap.size) := by
    refine ⟨(Below.refl _ _).alloc (by rw [WS.out]; exact Nat.le_refl _) _, ?_⟩
    simp
    rw [WS.out]; omega
  have HN : Hid (∀ j, j < n → (itAt ps j).name.size ≤ 2000 ∧ (itAt ps j).value.size ≤ 2000) := fun j hj => by
    have hjl : j < ps.length := by rw [HL.out]; exact hj
    have : itAt ps j = ps[j] := by unfold itAt; rw [List.getD_eq_getElem?_getD, List.getElem?_eq_getElem hjl]; rfl
    rw [this]
    exact hv _ (List.getElem_mem hjl)
  have PU := fun a z w' h1 h2 h3 => puts_any b b a z w' h1 h2 h3
  have DROP : Hid (∀ i, i < n → parsL id [] [32] [] (ps.drop i) = (oneL (itAt ps i)).data.toList ++ parsL id [] [32] [] (ps.drop (i + 1))) := fun i hi => parsL_drop ps i (by rw [HL.out]; exact hi)
  clear hW hv
  have P0 := PU [] (t ++ (⟨#[47]⟩ : ByteArray) ++ u) _ BD.out (by have := HXS.out; show 0 + _ ≤ _; omega) BS.out.2
  go_enter Tryd.func10, Tryd.ntmps10
  go_wp2_with fail
  rw [HW.out, hb.out]
  refine P0.mono ?_; rintro e w2 ⟨k0, rfl, h1, h2⟩
  have A2 : Aside (Bld b b (t.data.toList ++ 47 :: u.data.toList) w2 ∧ Below b W w2) := by
    refine ⟨?_, BS.out.1.trans h2⟩
    rw [HX.out] at h1
    exact h1
  obtain ⟨d0, d1, d2⟩ := CW.out w2 A2.out.2
  clear h1 h2 BD BS P0
  go_wp2_with fail
  go_loopg [16] n (fun g i wr => ∃ (k : Nat) (acc : List UInt8), i = .int .i64 k ∧ g + k = n ∧ Hid (acc.length ≤ 4001 + k * 9000) ∧ Hid (acc ++ parsL id [] [32] [] (ps.drop k) = res) ∧ Aside (Bld b b acc wr ∧ Below b W wr))
  case atStart =>
    refine ⟨0, _, rfl, rfl, ?_, ?_, A2.out⟩
    · have h1 := HXS.out
      rw [show (t ++ (⟨#[47]⟩ : ByteArray) ++ u).size = (t ++ (⟨#[47]⟩ : ByteArray) ++ u).data.toList.length from Array.length_toList.symm, HX.out] at h1
      show _ ≤ _
      omega
    · show _ = _
      rw [← hres.out, textL_eq]; rfl
  case round =>
    clear A2 hres d0 d1 d2
    obtain ⟨k, acc, rfl, hg, hal, hd, hA⟩ := hrel
    have y1 : (0 : Int) ≤ (k : Int) := by omega
    by_cases hlt2 : k < n
    · have y0 : (k : Int) < (n : Int) := by omega
      have BW : Hid (Below w.heap.size w wr) := HB.out.trans (hA.out.2.mono (Nat.le_of_lt hlt.out))
      obtain ⟨bb, oo, rfl, i0, i1, i2⟩ := (HI.out.below BW.out).at hlt2
      obtain ⟨n1, n2⟩ := HN.out k hlt2
      have D := DROP.out k hlt2
      unfold oneL at D
      have lw := wr_length (itAt ps k).value.data.toList
      have ev : (itAt ps k).value.data.toList.length = (itAt ps k).value.size := Array.length_toList
      have CWr : ∀ w, Calls Tryd.prog 26 #[.string (itAt ps k).value] w fun e w' => e = .returned (.string (T (media.wr (itAt ps k).value.data.toList))) ∧ Below w.heap.size w w' := fun w => by
        have := WT (itAt ps k).value.data.toList (by rw [ev]; exact n2) w
        rwa [T_of] at this
      have rsz : (T (media.wr (itAt ps k).value.data.toList)).size ≤ 4002 := by rw [T_size]; omega
      clear lw ev WT
      generalize T (media.wr (itAt ps k).value.data.toList) = R at *
      generalize (itAt ps k).name = N at *
      generalize (itAt ps k).value = V at *
      generalize (itAt ps k).has = H at *
      have q1 : ¬ 9223372036854775807 < (⟨#[59, 32]⟩ : ByteArray).size + N.size := by show ¬ _ < 2 + _; omega
      have q2 : ¬ 9223372036854775807 < ((⟨#[59, 32]⟩ : ByteArray) ++ N).size + (⟨#[61]⟩ : ByteArray).size := by rw [ByteArray.size_append]; show ¬ _ < 2 + _ + 1; omega
      have q3 : ¬ 9223372036854775807 < (((⟨#[59, 32]⟩ : ByteArray) ++ N) ++ (⟨#[61]⟩ : ByteArray)).size + R.size := by rw [ByteArray.size_append, ByteArray.size_append]; show ¬ _ < 2 + _ + 1 + _; omega
      have q4 : ¬ 9223372036854775807 < (⟨#[59, 32]⟩ : ByteArray).size + N.size + (⟨#[61]⟩ : ByteArray).size := by show ¬ _ < 2 + _ + 1; omega
      have q5 : ¬ 9223372036854775807 < 2 + N.size := by omega
      have q6 : ¬ 9223372036854775807 < 2 + N.size + 1 := by omega
      have q7 : ¬ 9223372036854775807 < 2 + N.size + 1 + R.size := by omega
      have q8 : ¬ 9223372036854775807 < (⟨#[59, 32]⟩ : ByteArray).size + N.size + (⟨#[61]⟩ : ByteArray).size + R.size := by show ¬ _ < 2 + _ + 1 + _; omega
      have zs : Hid (((((⟨#[59, 32]⟩ : ByteArray) ++ N) ++ (⟨#[61]⟩ : ByteArray)) ++ R).size ≤ 9000) := by show _ ≤ _; rw [ByteArray.size_append, ByteArray.size_append, ByteArray.size_append]; show 2 + _ + 1 + _ ≤ _; omega
      have NX : Hid (acc ++ (((((⟨#[59, 32]⟩ : ByteArray) ++ N) ++ (⟨#[61]⟩ : ByteArray)) ++ R).data.toList) ++ parsL id [] [32] [] (ps.drop (k + 1)) = res) := by
        show _ = _
        rw [← hd.out, D, List.append_assoc]
      clear D hd n1 n2 rsz
      have hAw : Aside (Bld b b acc (wr.alloc (.cells #[.string N, .string V, .bool H] 44)) ∧ Below b W (wr.alloc (.cells #[.string N, .string V, .bool H] 44)) ∧ b ≤ (wr.alloc (.cells #[.string N, .string V, .bool H] 44)).heap.size) := by
        have hbs : b ≤ wr.heap.size := by have := hA.out.2.size; rw [WS.out] at this; exact this
        refine ⟨bld_below hA.out.1 ((Below.refl _ _).alloc (Nat.le_refl _) _), hA.out.2.alloc hbs _, ?_⟩
        simp
        omega
      go_wp2_with fail
      clear hA i0 i1 i2
      have CC : Hid (∀ w', Below (wr.alloc (.cells #[.string N, .string V, .bool H] 44)).heap.size (wr.alloc (.cells #[.string N, .string V, .bool H] 44)) w' → w'.cell? ⟨wr.heap.size, 0, none⟩ = some (.string N) ∧ w'.cell? ⟨wr.heap.size, 1, none⟩ = some (.string V)) := fun w' h3 => by
        refine ⟨?_, ?_⟩
        · rw [h3.cell (p := ⟨wr.heap.size, 0, none⟩) (by simp), World.cell?_alloc_at _ _ _ _ rfl]; rfl
        · rw [h3.cell (p := ⟨wr.heap.size, 1, none⟩) (by simp), World.cell?_alloc_at _ _ _ _ rfl]; rfl
      generalize wr.alloc (.cells #[.string N, .string V, .bool H] 44) = W5 at *
      obtain ⟨c0, c1⟩ := CC.out W5.drew (Below.refl _ W5).drew
      have BDD : Hid (Bld b b acc W5.drew) := bld_below hAw.out.1 (Below.refl _ W5).drew
      go_region_with (first
        | (go_at_call 26; refine (CWr _).mono ?_; rintro e w6 ⟨rfl, hb6⟩; obtain ⟨e0, e1⟩ := CC.out w6 ((Below.refl _ W5).drew.trans hb6))
        | (go_at_call 25; refine (PU acc _ _ (bld_below BDD.out hb6) (by have h1 := zs.out; have h2 := hal.out; omega) (Nat.le_trans hAw.out.2.2 hb6.size)).mono ?_; rintro e w7 ⟨kk, rfl, h7, h8⟩))
      all_goals
        have NA : Aside (Bld b b (acc ++ (((((⟨#[59, 32]⟩ : ByteArray) ++ N) ++ (⟨#[61]⟩ : ByteArray)) ++ R).data.toList)) w7 ∧ Below b W w7) := ⟨h7, (hAw.out.2.1.drew.trans (hb6.mono hAw.out.2.2)).trans h8⟩
        clear h7 h8 hb6
        go_wp2_with fail
        go_roundg (gk - 1)
        case measure => omega
        case rel =>
          refine ⟨k + 1, _, by go_num, by omega, ?_, NX.out, NA.out⟩
          have h1 := zs.out
          have h2 := hal.out
          show _ ≤ _
          rw [List.length_append, show (((((⟨#[59, 32]⟩ : ByteArray) ++ N) ++ (⟨#[61]⟩ : ByteArray)) ++ R).data.toList).length = ((((⟨#[59, 32]⟩ : ByteArray) ++ N) ++ (⟨#[61]⟩ : ByteArray)) ++ R).size from Array.length_toList]
          omega
    · have y0 : ¬ (k : Int) < (n : Int) := by omega
      have V : Hid (acc = res) := by
        show _ = _
        rw [← hd.out, List.drop_eq_nil_of_le (by rw [HL.out]; omega)]
        exact (List.append_nil acc).symm
      have hbs : b ≤ wr.heap.size := by have := hA.out.2.size; rw [WS.out] at this; exact this
      have S4 := Tryd.Builder_String_any_f b b acc wr hA.out.1 hbs
      rw [V.out] at S4
      clear hbs hd
      go_wp2_with fail
      refine S4.mono ?_; rintro e w5 ⟨rfl, hb5⟩
      have A5 : Aside (Below w.heap.size w w5) := HB.out.trans ((hA.out.2.trans hb5.2).mono (Nat.le_of_lt hlt.out))
      clear hb5
      go_wp2_with fail
      go_ret
      exact ⟨rfl, A5.out⟩
end Go.Proofs.YtnjiogfnjpnjfaaDoor.media
