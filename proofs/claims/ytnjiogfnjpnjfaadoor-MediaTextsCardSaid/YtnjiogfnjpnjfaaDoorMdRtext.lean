/- The document's text of a kind of content. -/
import Derived.Test.YtnjiogfnjpnjfaaDoorMdText
import Derived.Deep.LoopGhost
set_option linter.unusedSimpArgs false
set_option linter.unusedVariables false
namespace Go.Proofs.YtnjiogfnjpnjfaaDoor.media
open Go.RowKit Go.Proofs.YtnjiogfnjpnjfaaDoor.errs

theorem esc_drop {v : ByteArray} {i : Nat} (h : i < v.size) : esc (v.data.toList.drop i) = escB (v.get! i) ++ esc (v.data.toList.drop (i + 1)) := by
  rw [bytes_drop h]; rfl
theorem one_list {v : ByteArray} {i : Nat} (h : i < v.size) : (v.extract i (i + 1)).data.toList = [v.get! i] := by
  rw [cut_list, bytes_drop h, Nat.add_sub_cancel_left]; rfl

set_option maxRecDepth 100000 in
set_option maxHeartbeats 4000000 in
theorem rtext_any (t u : ByteArray) (ad : Option Addr) (n c : Nat) (ps : List It) (w : World) (h : ItemsIn w (.slice ad n c) ps) (hn : n ≤ 1000) (ht : t.size ≤ 2000) (hu : u.size ≤ 2000) (hv : ∀ p ∈ ps, p.name.size ≤ 2000 ∧ p.value.size ≤ 2000) :
    Calls Tryd.prog 11 #[.agg #[.string t, .string u, .slice ad n c]] w fun e w' => e = .returned (.string (T (textL t u ps))) ∧ Below w.heap.size w w' := by
  obtain ⟨res, hres⟩ : ∃ res, Hid (textL t u ps = res) := ⟨_, rfl⟩
  rw [hres.out]
  have hl := h.len.1
  have HL := Lib.hid hl
  have z1 : ¬ 9223372036854775807 < t.size + (⟨#[47]⟩ : ByteArray).size := by show ¬ _ < _ + 1; omega
  have z2 : ¬ 9223372036854775807 < (t ++ (⟨#[47]⟩ : ByteArray)).size + u.size := by rw [ByteArray.size_append]; show ¬ _ < _ + 1 + _; omega
  have hX : (t ++ (⟨#[47]⟩ : ByteArray) ++ u).data.toList = t.data.toList ++ 47 :: u.data.toList := by simp [ByteArray.data_append]
  have hXs : (t ++ (⟨#[47]⟩ : ByteArray) ++ u).size ≤ 4001 := by rw [ByteArray.size_append, ByteArray.size_append]; show _ + 1 + _ ≤ _; omega
  obtain ⟨W, hW⟩ : ∃ W, w.alloc (.cells #[.string t, .string u, .slice ad n c] 24) = W := ⟨_, rfl⟩
  have HB : Hid (Below w.heap.size w W) := by show Below _ _ _; rw [← hW]; exact (Below.refl _ _).alloc (Nat.le_refl _) _
  have C2 : W.cell? ⟨w.heap.size, 2, none⟩ = some (.slice ad n c) := by rw [← hW, World.cell?_alloc_at _ _ _ _ rfl]; rfl
  have HI := Lib.hid (h.below HB.out)
  have HW := Lib.hid hW
  have HX := Lib.hid hX
  have HXS := Lib.hid hXs
  have HN : Hid (∀ j, j < n → (itAt ps j).name.size ≤ 2000 ∧ (itAt ps j).value.size ≤ 2000) := fun j hj => by
    have hjl : j < ps.length := by rw [HL.out]; exact hj
    have : itAt ps j = ps[j] := by unfold itAt; rw [List.getD_eq_getElem?_getD, List.getElem?_eq_getElem hjl]; rfl
    rw [this]
    exact hv _ (List.getElem_mem hjl)
  have DROP : Hid (∀ i, i < n → parsL id [] [32] [] (ps.drop i) = parL id [] [32] [] (itAt ps i) ++ parsL id [] [32] [] (ps.drop (i + 1))) := fun i hi => by
    show _ = _
    rw [parsL_drop ps i (by rw [HL.out]; exact hi), oneL_eq]
  have TK := fun (v : ByteArray) (hvs : v.size ≤ 2000) w => rtoken_any v (by omega) w
  clear h hl hX hXs hW hv
  go_enter Tryd.func11, Tryd.ntmps11
  go_wp2_with fail
  rw [HW.out]
  go_loopg [3, 4] n (fun g a b wr => ∃ (k : Nat) (o : ByteArray), a = .string o ∧ b = .int .i64 k ∧ g + k = n ∧ o.size ≤ 4001 + k * 9000 ∧ Hid (o.data.toList ++ parsL id [] [32] [] (ps.drop k) = res) ∧ wr = W)
  case atStart =>
    refine ⟨0, _, rfl, rfl, rfl, HXS.out, ?_, rfl⟩
    show _ = _
    rw [← hres.out, textL_eq, HX.out]; rfl
  case round =>
    clear hres
    obtain ⟨k, o, rfl, rfl, hg, ho, hd, rfl⟩ := hrel
    have y1 : (0 : Int) ≤ (k : Int) := by omega
    by_cases hlt : k < n
    · have y0 : (k : Int) < (n : Int) := by omega
      obtain ⟨bb, oo, rfl, i0, i1, i2⟩ := HI.out.at hlt
      obtain ⟨n1, n2⟩ := HN.out k hlt
      have HD : Hid (o.data.toList ++ (parL id [] [32] [] (itAt ps k) ++ parsL id [] [32] [] (ps.drop (k + 1))) = res) := by
        show _ = _
        rw [← DROP.out k hlt]; exact hd.out
      have CK := TK (itAt ps k).value n2
      unfold parL nameL valL at HD
      clear hd TK
      generalize (itAt ps k).name = N at *
      generalize (itAt ps k).value = V at *
      generalize (itAt ps k).has = H at *
      obtain ⟨o1, ho1⟩ : ∃ o1, o ++ (((⟨#[59, 32]⟩ : ByteArray) ++ N) ++ (⟨#[61]⟩ : ByteArray)) = o1 := ⟨_, rfl⟩
      have q1 : ¬ 9223372036854775807 < (⟨#[59, 32]⟩ : ByteArray).size + N.size := by show ¬ _ < 2 + _; omega
      have q2 : ¬ 9223372036854775807 < ((⟨#[59, 32]⟩ : ByteArray) ++ N).size + (⟨#[61]⟩ : ByteArray).size := by rw [ByteArray.size_append]; show ¬ _ < 2 + _ + 1; omega
      have q3 : ¬ 9223372036854775807 < o.size + (((⟨#[59, 32]⟩ : ByteArray) ++ N) ++ (⟨#[61]⟩ : ByteArray)).size := by rw [ByteArray.size_append, ByteArray.size_append]; show ¬ _ < _ + (2 + _ + 1); omega
      have hs1 : o1.size = o.size + (2 + N.size + 1) := by rw [← ho1, ByteArray.size_append, ByteArray.size_append, ByteArray.size_append]; rfl
      have HL1 : Hid (o1.data.toList = o.data.toList ++ (59 :: 32 :: (N.data.toList ++ [61]))) := by
        show _ = _
        rw [← ho1]; simp [ByteArray.data_append]
      have HO1 := Lib.hid ho1
      cases htk : isTok V with
      | true =>
        rw [htk] at CK
        have w9 : media.wr V.data.toList = V.data.toList := by unfold media.wr; rw [if_pos (show isTokL V.data.toList = true from htk)]
        have q4 : ¬ 9223372036854775807 < o1.size + V.size := by omega
        have NX : Hid ((o1 ++ V).data.toList ++ parsL id [] [32] [] (ps.drop (k + 1)) = res) := by
          show _ = _
          rw [← HD.out, w9, ByteArray.data_append, Array.toList_append, HL1.out]
          simp
        have NS : (o1 ++ V).size ≤ 4001 + (k + 1) * 9000 := by rw [ByteArray.size_append]; omega
        have HNS := Lib.hid NS
        clear HD NS w9 htk ho1 hs1
        go_wp2_with fail
        rw [HO1.out]
        refine (CK _).mono ?_; rintro e w1 ⟨rfl, rfl⟩
        go_wp2_with fail
        go_roundg (gk - 1)
        case measure => omega
        case rel => exact ⟨k + 1, _, rfl, by go_num, by omega, HNS.out, NX.out, rfl⟩
      | false =>
        rw [htk] at CK
        have w9 : media.wr V.data.toList = 34 :: (esc V.data.toList ++ [34]) := by unfold media.wr; rw [if_neg (by rw [show isTokL V.data.toList = isTok V from rfl, htk]; decide)]
        obtain ⟨o2, ho2⟩ : ∃ o2, o1 ++ (⟨#[34]⟩ : ByteArray) = o2 := ⟨_, rfl⟩
        have q4 : ¬ 9223372036854775807 < o1.size + (⟨#[34]⟩ : ByteArray).size := by show ¬ _ < _ + 1; omega
        have hs2 : o2.size = o1.size + 1 := by rw [← ho2, ByteArray.size_append]; rfl
        have HL2 : Hid (o2.data.toList = o1.data.toList ++ [34]) := by show _ = _; rw [← ho2]; simp [ByteArray.data_append]
        have HO2 := Lib.hid ho2
        have HE : Hid (o2.data.toList ++ (esc V.data.toList ++ (34 :: parsL id [] [32] [] (ps.drop (k + 1)))) = res) := by
          show _ = _
          rw [← HD.out, w9, HL2.out, HL1.out]
          simp
        have ob : o2.size ≤ 4001 + k * 9000 + 2004 := by omega
        have HOB := Lib.hid ob
        clear HD w9 htk ho1 ho2 hs1 hs2 HL1 HL2 ob
        go_wp2_with fail
        rw [HO1.out]
        refine (CK _).mono ?_; rintro e w1 ⟨rfl, rfl⟩
        go_wp2_with fail
        rw [HO2.out]
        go_loopg [3, 6] V.size (fun g a b wx => ∃ (i : Nat) (p : ByteArray), a = .string p ∧ b = .int .i64 i ∧ g + i = V.size ∧ p.size ≤ 4001 + k * 9000 + 2004 + 2 * i ∧ Hid (p.data.toList ++ (esc (V.data.toList.drop i) ++ (34 :: parsL id [] [32] [] (ps.drop (k + 1)))) = res) ∧ wx = wr)
        case atStart => exact ⟨0, o2, rfl, rfl, rfl, HOB.out, HE.out, rfl⟩
        case round =>
          obtain ⟨i, p, rfl, rfl, hg2, hp, he, rfl⟩ := hrel
          have y2 : (0 : Int) ≤ (i : Int) := by omega
          by_cases hi : i < V.size
          · have y3 : (i : Int) < (V.size : Int) := by omega
            have y4 : (i : Int) + 1 ≤ (V.size : Int) := by omega
            have w3 : ((i : Int) + 1).toNat = i + 1 := by omega
            have b1 := eq_byte (V.get! i) 34
            have b2 := eq_byte (V.get! i) 92
            simp only [show ((34 : UInt8).toNat : Int) = 34 from rfl, show ((92 : UInt8).toNat : Int) = 92 from rfl] at b1 b2
            have ga := get_at hi
            have hgd := bytes_drop hi
            have HE2 := esc_drop hi
            have sl : ∀ w, (Instr.slice 9 (.string V) (some (.int .i64 i)) (some (.int .i64 ((i : Int) + 1))) none).run Tryd.prog w = .ok (.string (V.extract i (i + 1))) w := fun w => by
              rw [run_slice_string_if (h := Tryd.underlying9), if_pos (by omega), if_pos (by omega), w3]
              rfl
            have O1 := one_list hi
            have os : (V.extract i (i + 1)).size = 1 := by rw [ByteArray.size_extract]; omega
            have EE : escB (V.get! i) = if V.get! i = 34 then [92, 34] else if V.get! i = 92 then [92, 92] else [V.get! i] := rfl
            have ge : ((V[i]'hi).toNat : Int) = ((V.get! i).toNat : Int) := by rw [ga]
            rw [← ge] at b1 b2
            rw [HE2] at he
            have gx : (V[i]'hi) = V.get! i := UInt8.toNat_inj.1 ga
            obtain ⟨x, hx⟩ : ∃ x, V.extract i (i + 1) = x := ⟨_, rfl⟩
            rw [hx] at sl O1 os
            by_cases hq : V.get! i = 34 ∨ V.get! i = 92
            · obtain ⟨p1, hp1⟩ : ∃ p1, p ++ (⟨#[92]⟩ : ByteArray) = p1 := ⟨_, rfl⟩
              have r1 : ¬ 9223372036854775807 < p.size + (⟨#[92]⟩ : ByteArray).size := by show ¬ _ < _ + 1; omega
              have hs1 : p1.size = p.size + 1 := by rw [← hp1, ByteArray.size_append]; rfl
              have r2 : ¬ 9223372036854775807 < p1.size + x.size := by omega
              have NX : Hid ((p1 ++ x).data.toList ++ (esc (V.data.toList.drop (i + 1)) ++ (34 :: parsL id [] [32] [] (ps.drop (k + 1)))) = res) := by
                show _ = _
                rw [← he.out, EE, ByteArray.data_append, Array.toList_append, O1, ← hp1]
                rcases hq with e | e <;> rw [e] <;> simp [ByteArray.data_append]
              have NS : Hid ((p1 ++ x).size ≤ 4001 + k * 9000 + 2004 + 2 * (i + 1)) := by show _ ≤ _; rw [ByteArray.size_append]; omega
              have HP1 := Lib.hid hp1
              have Q : (((V[i]'hi).toNat : Int) == 34) = true ∨ ((((V[i]'hi).toNat : Int) == 34) = false ∧ (((V[i]'hi).toNat : Int) == 92) = true) := by
                rw [b1, b2]
                rcases hq with e | e
                · left; rw [e]; rfl
                · right; rw [e]; exact ⟨rfl, rfl⟩
              clear b1 b2 he EE O1 HE2 hgd gx ge ga hq hx hp1 hs1
              rcases Q with h1 | ⟨h1, h2⟩
              all_goals
                go_wp2_with fail
                go_roundg (gk - 1)
                case measure => omega
                case rel => exact ⟨i + 1, _, by rw [HP1.out], by go_num, by omega, NS.out, NX.out, rfl⟩
            · have r2 : ¬ 9223372036854775807 < p.size + x.size := by omega
              have h34 : ¬ V.get! i = 34 := fun e => hq (.inl e)
              have h92 : ¬ V.get! i = 92 := fun e => hq (.inr e)
              have NX : Hid ((p ++ x).data.toList ++ (esc (V.data.toList.drop (i + 1)) ++ (34 :: parsL id [] [32] [] (ps.drop (k + 1)))) = res) := by
                show _ = _
                rw [← he.out, EE, if_neg h34, if_neg h92, ByteArray.data_append, Array.toList_append, O1]
                simp
              have NS : Hid ((p ++ x).size ≤ 4001 + k * 9000 + 2004 + 2 * (i + 1)) := by show _ ≤ _; rw [ByteArray.size_append]; omega
              have h1 : (((V[i]'hi).toNat : Int) == 34) = false := by rw [b1, decide_eq_false h34]
              have h2 : (((V[i]'hi).toNat : Int) == 92) = false := by rw [b2, decide_eq_false h92]
              clear b1 b2 he EE O1 HE2 hgd gx ge ga hq hx h34 h92
              go_wp2_with fail
              go_roundg (gk - 1)
              case measure => omega
              case rel => exact ⟨i + 1, _, rfl, by go_num, by omega, NS.out, NX.out, rfl⟩
          · have y3 : ¬ (i : Int) < (V.size : Int) := by omega
            have r1 : ¬ 9223372036854775807 < p.size + (⟨#[34]⟩ : ByteArray).size := by show ¬ _ < _ + 1; omega
            have NX : Hid ((p ++ (⟨#[34]⟩ : ByteArray)).data.toList ++ parsL id [] [32] [] (ps.drop (k + 1)) = res) := by
              show _ = _
              rw [← he.out, bytes_end (by omega)]
              simp [ByteArray.data_append, esc]
            have NS : Hid ((p ++ (⟨#[34]⟩ : ByteArray)).size ≤ 4001 + (k + 1) * 9000) := by show _ ≤ _; rw [ByteArray.size_append]; show _ + 1 ≤ _; omega
            have gg : Hid (n - (k + 1) < n - k ∧ n - (k + 1) + (k + 1) = n) := by refine ⟨?_, ?_⟩ <;> omega
            clear he
            go_wp2_with fail
            go_roundg (n - (k + 1))
            case measure => omega
            case rel => exact ⟨k + 1, _, rfl, by go_num, gg.out.2, NS.out, NX.out, rfl⟩
    · have y0 : ¬ (k : Int) < (n : Int) := by omega
      have V : Hid (T res = o) := by
        show _ = _
        rw [← hd.out, List.drop_eq_nil_of_le (by rw [HL.out]; omega)]
        show T (o.data.toList ++ []) = o
        rw [List.append_nil, T_of]
      clear hd
      go_wp2_with fail
      go_ret
      exact ⟨by rw [V.out]; rfl, HB.out⟩
end Go.Proofs.YtnjiogfnjpnjfaaDoor.media
