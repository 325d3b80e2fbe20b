/- media.cutQuoted, media.cutValue. -/
import Derived.Test.YtelofhplpeeplaaDoorMdCut
import Derived.Test.YtelofhplpeeplaaDoorMdFold
set_option linter.unusedSimpArgs false
set_option linter.unusedVariables false
namespace Go.Proofs.YtelofhplpeeplaaDoor.media
open Go.RowKit Go.Proofs.YtelofhplpeeplaaDoor.errs

theorem str_eq (a b : UInt8) : ((T [a]).toList == [b]) = decide (a = b) := by
  rw [Lib.toList_data]
  show ([a] == [b]) = _
  by_cases e : a = b
  · rw [decide_eq_true e, e]; exact beq_self_eq_true _
  · rw [decide_eq_false e]
    exact beq_eq_false_iff_ne.2 (fun q => e (List.cons.inj q).1)

theorem get_at {s : ByteArray} {i : Nat} (h : i < s.size) : (s[i]'h).toNat = (s.get! i).toNat := by
  have h' : i < s.data.size := h
  show (s.data[i]).toNat = (s.data[i]!).toNat
  rw [getElem!_pos s.data i h']

set_option maxRecDepth 100000 in
set_option maxHeartbeats 1000000 in
theorem cutQuoted_any (l : List UInt8) (hl : l.length ≤ 1000000) (w : World) :
    Calls Tryd.prog 94 #[.string (T l)] w fun e w' => e = .returned (cutV (unq [] l)) ∧ Below w.heap.size w w' := by
  obtain ⟨res, hres⟩ : ∃ res, Hid (cutV (unq [] l) = res) := ⟨_, rfl⟩
  rw [hres.out]
  obtain ⟨i0, hi, hz0, hz1, hz2⟩ := info_parts infoU8
  obtain ⟨m, hm⟩ : ∃ m, Hid (l.length = m) := ⟨_, rfl⟩
  rw [hm.out] at hl
  have hsz : (T l).size = m := hm.out
  go_enter Tryd.func94, Tryd.ntmps94
  go_wp2_with fail
  go_loopg [5, 6] (m + 1) (fun g t b wr => ∃ (k : Nat) (acc : List UInt8) (t0 : Value), t0 = t ∧ b = .int .i64 k ∧ g + k = m + 1 ∧ acc.length ≤ k ∧ Hid (cutV (unq acc (l.drop k)) = res) ∧ Aside (wr.ownsRow w.heap.size 5 1 t acc.length (vals acc) ∧ Below w.heap.size w wr))
  case atStart => exact ⟨0, [], _, rfl, rfl, by omega, Nat.le_refl _, hres, World.ownsRow_nil w _ _ _, Below.refl _ _⟩
  case round =>
    clear hres
    obtain ⟨k, acc, t0, rfl, rfl, hg, hal, hd, hA⟩ := hrel
    have y1 : (0 : Int) ≤ (k : Int) := by omega
    have w3 : ((k : Int) + 1).toNat = k + 1 := by omega
    by_cases hlt : k < m
    · have y0 : (k : Int) < (m : Int) := by omega
      have ix := byte_at (T l) k (by rw [hsz]; exact hlt)
      have hdr : l.drop k = (T l).get! k :: l.drop (k + 1) := bytes_drop (s := T l) (by rw [hsz]; exact hlt)
      have sl : ∀ w, (Instr.slice 9 (.string (T l)) (some (.int .i64 k)) (some (.int .i64 ((k : Int) + 1))) none).run Tryd.prog w = .ok (.string (T [(T l).get! k])) w := fun w => by
        rw [run_slice_string_if (h := Tryd.underlying9), if_pos (by omega), if_pos (by omega), w3]
        rw [T_cut, show (k : Int).toNat = k from rfl, Nat.add_sub_cancel_left, hdr]; rfl
      have b1 := str_eq ((T l).get! k) 34
      have b2 := str_eq ((T l).get! k) 92
      have hd := hd.out
      rw [hdr] at hd
      clear hdr
      have OW : ∀ n, (wr.drewN n).ownsRow w.heap.size 5 1 t0 acc.length (vals acc) := fun n => hA.out.1
      by_cases e1 : (T l).get! k = 34
      · rw [decide_eq_true e1] at b1
        have sl2 : ∀ w, (Instr.slice 9 (.string (T l)) (some (.int .i64 ((k : Int) + 1))) none none).run Tryd.prog w = .ok (.string (T (l.drop (k + 1)))) w := fun w => by
          rw [run_slice_string_from_if (h := Tryd.underlying9), if_pos (by omega), w3]
          rw [T_cut, List.take_of_length_le (by rw [List.length_drop, hsz, hm.out]; exact Nat.le_refl _)]
        have cv : ∀ n, (convert 23 9 t0).run Tryd.prog (wr.drewN n) = .ok (.string (T acc)) (wr.drewN n) := fun n => conv_vals (OW n)
        have V : Aside (res = .tuple #[.string (T acc), .string (T (l.drop (k + 1))), .bool true]) := by
          show _ = _
          rw [← hd, e1]
          unfold unq
          rw [if_pos rfl]; rfl
        clear hd e1 b2 ix OW
        generalize T [(T l).get! k] = z at *
        generalize T (l.drop (k + 1)) = A at *
        generalize T acc = B at *
        go_wp2_with fail
        go_quiet (fail)
        go_wp2_with fail
        go_ret3
        exact ⟨by rw [V.out]; rfl, below_drewN hA.out.2 _⟩
      · rw [decide_eq_false e1] at b1
        by_cases e2 : (T l).get! k = 92
        · rw [decide_eq_true e2] at b2
          by_cases h2 : k + 1 < m
          · have x0 : (k : Int) + 1 < (m : Int) := by omega
            have ix2 : ∀ w, (Instr.index 9 (.string (T l)) (.int .i64 ((k : Int) + 1))).run Tryd.prog w = .ok (.int .u8 ((T l).get! (k + 1)).toNat) w := byte_at (T l) (k + 1) (by rw [hsz]; exact h2)
            have hdr : l.drop (k + 1) = (T l).get! (k + 1) :: l.drop (k + 2) := bytes_drop (s := T l) (by rw [hsz]; exact h2)
            have V : Hid (cutV (unq (acc ++ [(T l).get! (k + 1)]) (l.drop (k + 2))) = res) := by
              show _ = _
              rw [← hd, e2, hdr]
              conv => rhs; unfold unq
              rw [if_neg (by decide), if_pos rfl]
            have hlen : (vals (acc ++ [(T l).get! (k + 1)])) = vals acc ++ [.int .u8 ((T l).get! (k + 1)).toNat] := by unfold vals; rw [List.map_append]; rfl
            have HLEN := Lib.hid hlen
            have HD : Hid (∀ h : k + 1 < (T l).size, ((T l)[k + 1]'h).toNat = ((T l).get! (k + 1)).toNat) := fun h => get_at h
            have HS : Hid (k + 1 < (T l).size) := by show _ < _; rw [hsz]; exact h2
            clear hd e1 e2 ix ix2 hdr hlen OW
            generalize T [(T l).get! k] = z at *
            generalize (T l).get! (k + 1) = d at *
            go_wp2_with (at_builtin; refine put_one hi hz0 hz1 hz2 hA.out.1 _ (by rfl) (by omega) hA.out.2.size rfl _ _ rfl rfl rfl ?_)
            intro v' w4 hp
            have N : Aside (w4.ownsRow w.heap.size 5 1 v' (acc ++ [d]).length (vals (acc ++ [d])) ∧ Below w.heap.size w w4) := ⟨by rw [HLEN.out, List.length_append, ← HD.out HS.out]; exact hp.own, hA.out.2.trans hp.below⟩
            clear hp
            go_wp2_with fail
            go_roundg (gk - 2)
            case measure => omega
            case rel => exact ⟨k + 2, acc ++ [d], v', rfl, by go_num, by omega, by rw [List.length_append]; show _ + 1 ≤ _; omega, V, N.out⟩
          · have x0 : ¬ (k : Int) + 1 < (m : Int) := by omega
            have V : Hid (cutV (unq acc (l.drop (k + 2))) = res) := by
              show _ = _
              rw [← hd, e2, List.drop_eq_nil_of_le (show l.length ≤ k + 2 by rw [hm.out]; omega), List.drop_eq_nil_of_le (show l.length ≤ k + 1 by rw [hm.out]; omega)]
              unfold unq
              rw [if_neg (by decide), if_pos rfl]
            have hk : k + 1 = m := by omega
            clear hd e1 e2 ix OW
            generalize T [(T l).get! k] = z at *
            go_wp2_with fail
            go_roundg 0
            case measure => omega
            case rel => exact ⟨k + 2, acc, _, rfl, by go_num, by omega, by omega, V, hA.out⟩
        · rw [decide_eq_false e2] at b2
          have V : Hid (cutV (unq (acc ++ [(T l).get! k]) (l.drop (k + 1))) = res) := by
            show _ = _
            rw [← hd]
            conv => rhs; unfold unq
            rw [if_neg e1, if_neg e2]
          have hlen : (vals (acc ++ [(T l).get! k])) = vals acc ++ [.int .u8 ((T l).get! k).toNat] := by unfold vals; rw [List.map_append]; rfl
          have HLEN := Lib.hid hlen
          have HD : Hid (∀ h : k < (T l).size, ((T l)[k]'h).toNat = ((T l).get! k).toNat) := fun h => get_at h
          have HS : Hid (k < (T l).size) := by show _ < _; rw [hsz]; exact hlt
          clear hd e1 e2 ix hlen OW
          generalize T [(T l).get! k] = z at *
          generalize (T l).get! k = d at *
          go_wp2_with (at_builtin; refine put_one hi hz0 hz1 hz2 hA.out.1 _ (by rfl) (by omega) hA.out.2.size rfl _ _ rfl rfl rfl ?_)
          intro v' w4 hp
          have N : Aside (w4.ownsRow w.heap.size 5 1 v' (acc ++ [d]).length (vals (acc ++ [d])) ∧ Below w.heap.size w w4) := ⟨by rw [HLEN.out, List.length_append, ← HD.out HS.out]; exact hp.own, hA.out.2.trans hp.below⟩
          clear hp
          go_wp2_with fail
          go_roundg (gk - 1)
          case measure => omega
          case rel => exact ⟨k + 1, acc ++ [d], v', rfl, by go_num, by omega, by rw [List.length_append]; show _ + 1 ≤ _; omega, V, N.out⟩
    · have y0 : ¬ (k : Int) < (m : Int) := by omega
      have V : Aside (res = .tuple #[.string ⟨#[]⟩, .string ⟨#[]⟩, .bool false]) := by
        show _ = _
        rw [← hd.out, List.drop_eq_nil_of_le (by rw [hm.out]; omega)]
        unfold unq; rfl
      clear hd
      go_wp2_with fail
      go_ret3
      exact ⟨by rw [V.out]; rfl, hA.out.2⟩

set_option maxRecDepth 100000 in
set_option maxHeartbeats 1000000 in
theorem cutValue_any (l : List UInt8) (hl : l.length ≤ 1000000) (w : World) :
    Calls Tryd.prog 91 #[.string (T l)] w fun e w' => e = .returned (cutV (valC l)) ∧ Below w.heap.size w w' := by
  have CP : ∀ w, Calls Tryd.prog 72 #[.string (T l), .string ⟨#[34]⟩] w fun e w' => e = .returned (mustV l (must 34 l)) ∧ w = w' := cutPrefix_any 34 l
  unfold valC
  cases hm : must 34 l with
  | some r =>
    rw [hm] at CP
    have hr : r.length ≤ 1000000 := by rw [must_some hm, List.length_cons] at hl; omega
    have CQ := cutQuoted_any r hr
    clear hm
    simp only [mustV] at CP
    simp only
    cases hu : unq [] r with
    | none =>
      rw [hu] at CQ
      simp only [cutV] at CQ ⊢
      clear hu
      generalize T r = R at *
      go_enter Tryd.func91, Tryd.ntmps91
      go_wp2_with fail
      refine (CP _).mono ?_; rintro e w1 ⟨rfl, rfl⟩
      go_wp2_with fail
      refine (CQ _).mono ?_; rintro e w1 ⟨rfl, hb⟩
      go_wp2_with fail
      go_ret3
      exact ⟨rfl, hb⟩
    | some x =>
      obtain ⟨a, b⟩ := x
      rw [hu] at CQ
      simp only [cutV] at CQ ⊢
      clear hu
      generalize T r = R at *
      generalize T a = A at *
      generalize T b = B at *
      go_enter Tryd.func91, Tryd.ntmps91
      go_wp2_with fail
      refine (CP _).mono ?_; rintro e w1 ⟨rfl, rfl⟩
      go_wp2_with fail
      refine (CQ _).mono ?_; rintro e w1 ⟨rfl, hb⟩
      go_wp2_with fail
      go_ret3
      exact ⟨rfl, hb⟩
  | none =>
    rw [hm] at CP
    have CT := cutToken_any l hl
    clear hm
    simp only [mustV] at CP
    simp only
    cases hu : tokC l with
    | none =>
      rw [hu] at CT
      simp only [cutV] at CT ⊢
      have CC := clone_any ⟨#[]⟩ (by decide)
      clear hu
      generalize T l = R at *
      go_enter Tryd.func91, Tryd.ntmps91
      go_wp2_with fail
      refine (CP _).mono ?_; rintro e w1 ⟨rfl, rfl⟩
      go_wp2_with fail
      refine (CT _).mono ?_; rintro e w1 ⟨rfl, hb⟩
      go_wp2_with fail
      refine (CC _).mono ?_; rintro e w2 ⟨rfl, hb2⟩
      go_wp2_with fail
      go_ret3
      exact ⟨rfl, hb.trans (hb2.mono hb.size)⟩
    | some x =>
      obtain ⟨a, b⟩ := x
      have ha : a.length ≤ 1000000 := by have := (tokC_lt hu).2.1; omega
      have CC := clone_any (T a) ha
      rw [hu] at CT
      simp only [cutV] at CT ⊢
      clear hu ha
      generalize T l = R at *
      generalize T a = A at *
      generalize T b = B at *
      go_enter Tryd.func91, Tryd.ntmps91
      go_wp2_with fail
      refine (CP _).mono ?_; rintro e w1 ⟨rfl, rfl⟩
      go_wp2_with fail
      refine (CT _).mono ?_; rintro e w1 ⟨rfl, hb⟩
      go_wp2_with fail
      refine (CC _).mono ?_; rintro e w2 ⟨rfl, hb2⟩
      go_wp2_with fail
      go_ret3
      exact ⟨rfl, hb.trans (hb2.mono hb.size)⟩
end Go.Proofs.YtelofhplpeeplaaDoor.media
