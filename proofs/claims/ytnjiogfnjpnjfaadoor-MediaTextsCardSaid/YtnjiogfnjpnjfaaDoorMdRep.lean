/- strings.ReplaceAll of one byte by more. -/
import Derived.Test.YtnjiogfnjpnjfaaDoorMdBuild
import Derived.Test.YtnjiogfnjpnjfaaDoorMdCut
import Derived.IntWalk
set_option linter.unusedSimpArgs false
set_option linter.unusedVariables false
namespace Go.Proofs.YtnjiogfnjpnjfaaDoor.media
open Go.RowKit Go.Proofs.YtnjiogfnjpnjfaaDoor.errs Go.Proofs.YtnjiogfnjpnjfaaDoor.build

theorem empty_list' (l : List UInt8) : (T l).toList = l := by rw [Lib.toList_data]; rfl
def rep (c : UInt8) (nb l : List UInt8) : List UInt8 := l.flatMap fun x => if x = c then nb else [x]
theorem rep_none (c : UInt8) (nb : List UInt8) : ∀ l : List UInt8, l.count c = 0 → rep c nb l = l
  | [], _ => rfl
  | x :: l, h => by
    have hx : x ≠ c := fun e => by rw [e, List.count_cons_self] at h; omega
    rw [List.count_cons_of_ne hx] at h
    unfold rep
    rw [List.flatMap_cons, if_neg hx]
    exact congrArg (x :: ·) (rep_none c nb l h)
theorem rep_split (c : UInt8) (nb : List UInt8) : ∀ l : List UInt8, l.count c ≠ 0 →
    ∃ q : Nat, Lib.indexByte l c = (q : Int) ∧ q < l.length ∧ (l.drop (q + 1)).count c + 1 = l.count c ∧ rep c nb l = l.take q ++ nb ++ rep c nb (l.drop (q + 1))
  | [], h => absurd rfl h
  | x :: l, h => by
    by_cases hx : x = c
    · refine ⟨0, ?_, by simp, ?_, ?_⟩
      · unfold Lib.indexByte; rw [if_pos (beq_iff_eq.2 hx)]; rfl
      · rw [hx, List.count_cons_self]; rfl
      · unfold rep; rw [List.flatMap_cons, if_pos hx]; rfl
    · rw [List.count_cons_of_ne hx] at h
      obtain ⟨q, h1, h2, h3, h4⟩ := rep_split c nb l h
      refine ⟨q + 1, ?_, by simp; omega, ?_, ?_⟩
      · unfold Lib.indexByte
        rw [if_neg (by rw [beq_iff_eq]; exact hx), h1, if_neg (by rw [beq_iff_eq]; omega)]
        omega
      · rw [List.count_cons_of_ne hx]; exact h3
      · have e : rep c nb (x :: l) = x :: rep c nb l := by unfold rep; rw [List.flatMap_cons, if_neg hx]; rfl
        rw [e, h4]; rfl

set_option maxHeartbeats 2000000 in
set_option maxRecDepth 100000 in
theorem replaceAll_any (c : UInt8) (nb : List UInt8) (hnb : nb.length = 2) (l : List UInt8) (hl : l.length ≤ 100000) (w : World) :
    Calls Tryd.prog 42 #[.string (T l), .string (T [c]), .string (T nb)] w fun e w' => e = .returned (.string (T (rep c nb l))) ∧ Below w.heap.size w w' := by
  have key : Calls Tryd.prog 63 #[.string (T l), .string (T [c]), .string (T nb), .int .i64 (-1)] w fun e w' => e = .returned (.string (T (rep c nb l))) ∧ Below w.heap.size w w' := by
    have CN : ∀ w, Calls Tryd.prog 76 #[.string (T l), .string (T [c])] w fun e w' => e = .returned (.int .i64 (l.count c)) ∧ w' = w := fun w => Any.strings_Count_one Tryd.lays138 (T l) c w
    have ne : ((T [c]).toList == (T nb).toList) = false := by
      rw [empty_list', empty_list']
      refine beq_eq_false_iff_ne.2 (fun e => ?_)
      have := congrArg List.length e
      simp at this
      omega
    have o1 : (T [c]).size = 1 := rfl
    have o2 : (T nb).size = 2 := hnb
    have hsz : (T l).size = l.length := rfl
    obtain ⟨m, hm⟩ : ∃ m, Hid (l.length = m) := ⟨_, rfl⟩
    rw [hm.out] at hsz hl
    obtain ⟨k, hk⟩ : ∃ k, Hid (l.count c = k) := ⟨_, rfl⟩
    have hkm : k ≤ m := by rw [← hk.out, ← hm.out]; exact List.count_le_length
    rw [hk.out] at CN
    have IX : ∀ (x : List UInt8) (w : World), Calls Tryd.prog 78 #[.string (T x), .string (T [c])] w fun e w' => e = .returned (.int .i64 (Lib.indexByte x c)) ∧ w' = w := fun x w => Any.strings_Index_one Tryd.lays143 (T x) c w
    have WS := fun (b : Nat) (a s : List UInt8) (w' : World) h1 h2 h3 => string_any w.heap.size b a s w' h1 h2 h3
    by_cases h0 : k = 0
    · subst h0
      rw [rep_none c nb l hk.out]
      clear hkm IX WS
      generalize T l = S at *
      generalize T [c] = O at *
      generalize T nb = R at *
      go_enter Tryd.func63, Tryd.ntmps63
      go_wp2_with fail
      refine (CN _).mono ?_; rintro e w1 ⟨rfl, rfl⟩
      go_wp2_with fail
      go_ret
      exact ⟨rfl, Below.refl _ _⟩
    · have x0 : ((k : Int) == 0) = false := beq_eq_false_iff_ne.2 (by omega)
      have GW := grow_any (m + k) w (by omega)
      have NBH := Lib.hid hnb
      obtain ⟨S, hS⟩ : ∃ S, Hid (T l = S) := ⟨_, rfl⟩
      obtain ⟨O, hO⟩ : ∃ O, Hid (T [c] = O) := ⟨_, rfl⟩
      obtain ⟨R, hR⟩ : ∃ R, Hid (T nb = R) := ⟨_, rfl⟩
      have WR := fun (b : Nat) (a : List UInt8) (w' : World) h1 h2 h3 => WS b a nb w' h1 h2 h3
      rw [hR.out] at WR
      rw [hO.out] at IX
      have hSl : Hid (∀ a b : Nat, S.extract a b = T ((l.drop a).take (b - a))) := fun a b => by rw [← hS.out, T_cut]
      rw [hS.out, hO.out, hR.out]
      rw [hS.out] at CN hsz
      rw [hO.out] at CN o1 ne
      rw [hR.out] at ne o2
      have hkk := Lib.hid h0
      have GW : Calls Tryd.prog 77 #[.pointer (some ⟨w.heap.size, 0, none⟩), .int .i64 ((m : Int) + (k : Int))] (w.alloc (.cells #[.pointer none, .slice none 0 0] 52)) fun e w' => e = .returned (.tuple #[]) ∧ Bld w.heap.size w.heap.size [] w' ∧ Below w.heap.size w w' := GW
      clear h0 hnb
      go_enter Tryd.func63, Tryd.ntmps63
      go_wp2_with fail
      refine (CN _).mono ?_; rintro e w1 ⟨rfl, rfl⟩
      go_wp2_with fail
      refine GW.mono ?_; rintro e w2 ⟨rfl, h1, h2⟩
      have A0 : Aside (Bld w1.heap.size w1.heap.size [] w2 ∧ Below w1.heap.size w1 w2) := ⟨h1, h2⟩
      clear h1 h2 GW CN
      go_wp2_with fail
      go_loopg [11, 53] k (fun g a b wr => ∃ (st i : Nat) (acc : List UInt8), a = .int .i64 st ∧ b = .int .i64 i ∧ g + i = k ∧ st ≤ m ∧ acc.length ≤ 2 * st ∧ Hid ((l.drop st).count c = g) ∧ Hid (acc ++ rep c nb (l.drop st) = rep c nb l) ∧ Aside (Bld w1.heap.size w1.heap.size acc wr ∧ Below w1.heap.size w1 wr))
      case atStart => exact ⟨0, 0, [], rfl, rfl, rfl, Nat.zero_le _, Nat.zero_le _, hk.out, rfl, A0.out⟩
      case round =>
        clear A0
        obtain ⟨st, i, acc, rfl, rfl, hg, hst, hacc, hc, hd, hA⟩ := hrel
        have y1 : (0 : Int) ≤ (st : Int) := by omega
        have y2 : (st : Int) ≤ (m : Int) := by omega
        have s1 : ∀ w, (Instr.slice 9 (.string S) (some (.int .i64 st)) none none).run Tryd.prog w = .ok (.string (T (l.drop st))) w := fun w => by
          rw [run_slice_string_from_if (h := Tryd.underlying9), if_pos (by rw [hsz]; omega), hSl.out]
          rw [List.take_of_length_le (by rw [List.length_drop, hsz, hm.out]; exact Nat.le_refl _)]
          rfl
        by_cases hlt : i < k
        · have y3 : (i : Int) < (k : Int) := by omega
          obtain ⟨q, h1, h2, h3, h4⟩ := rep_split c nb (l.drop st) (by rw [hc.out]; omega)
          have I1 := IX (l.drop st)
          rw [h1] at I1
          rw [List.length_drop, hm.out] at h2
          have s2 : ∀ w, (Instr.slice 9 (.string S) (some (.int .i64 st)) (some (.int .i64 ((st : Int) + (q : Int)))) none).run Tryd.prog w = .ok (.string (T ((l.drop st).take q))) w := fun w => by
            rw [run_slice_string_if (h := Tryd.underlying9), if_pos (by omega), if_pos (by omega), show ((st : Int) + (q : Int)).toNat = st + q by omega, hSl.out, show (st : Int).toNat = st from rfl, Nat.add_sub_cancel_left]
          have V : Hid (((acc ++ (l.drop st).take q) ++ nb) ++ rep c nb (l.drop (st + q + 1)) = rep c nb l) := by
            show _ = _
            rw [← hd.out, h4, List.drop_drop, List.append_assoc, List.append_assoc, List.append_assoc]
            rfl
          have V2 : Hid ((l.drop (st + q + 1)).count c = gk - 1) := by
            show _ = _
            rw [List.drop_drop, show st + (q + 1) = st + q + 1 by omega, hc.out] at h3
            omega
          have hq : ((l.drop st).take q).length = q := by rw [List.length_take, List.length_drop, hm.out]; omega
          have y4 : (0 : Int) ≤ (q : Int) := by omega
          have y5 : (st : Int) + (q : Int) + 1 ≤ (m : Int) := by omega
          have W1 := WS w1.heap.size acc ((l.drop st).take q)
          rw [hq] at W1
          have HQ := Lib.hid hq
          have hwr : IntKind.i64.wrap ((st : Int) + (q : Int)) = (st : Int) + (q : Int) := IntWalk.i64_in _ (by omega)
          clear h1 h3 h4 hc hd hq
          generalize T ((l.drop st).take q) = X1 at *
          generalize T (l.drop st) = X2 at *
          go_wp2_with fail
          refine (I1 _).mono ?_; rintro e w3 ⟨rfl, rfl⟩
          go_wp2_with fail
          refine (W1 _ hA.out.1 (by rw [← HQ.out]; rw [HQ.out]; omega) hA.out.2.size).mono ?_; rintro e w4 ⟨rfl, h5, h6⟩
          have A4 : Aside (Bld w1.heap.size w1.heap.size (acc ++ (l.drop st).take q) w4 ∧ Below w1.heap.size w1 w4) := ⟨h5, hA.out.2.trans h6⟩
          clear h5 h6
          go_wp2_with fail
          refine (WR w1.heap.size _ _ A4.out.1 (by rw [List.length_append, HQ.out, NBH.out]; omega) A4.out.2.size).mono ?_; rintro e w5 ⟨rfl, h5, h6⟩
          have A5 : Aside (Bld w1.heap.size w1.heap.size ((acc ++ (l.drop st).take q) ++ nb) w5 ∧ Below w1.heap.size w1 w5) := ⟨h5, A4.out.2.trans h6⟩
          clear h5 h6 A4
          go_wp2_with fail
          go_roundg (gk - 1)
          case measure => omega
          case rel => exact ⟨st + q + 1, i + 1, _, by go_num, by go_num, by omega, by omega, by rw [List.length_append, List.length_append, HQ.out, NBH.out]; omega, V2.out, V.out, A5.out⟩
        · have y3 : ¬ (i : Int) < (k : Int) := by omega
          have V : Hid (acc ++ l.drop st = rep c nb l) := by
            show _ = _
            rw [← hd.out, rep_none c nb (l.drop st) (by rw [hc.out]; omega)]
          have W1 := WS w1.heap.size acc (l.drop st)
          have hq : (l.drop st).length ≤ m := by rw [List.length_drop, hm.out]; omega
          have HQ := Lib.hid hq
          have ST := fun wx h => Tryd.Builder_String_any_f w1.heap.size w1.heap.size (acc ++ l.drop st) wx h
          clear hc hd hq
          obtain ⟨X2, hX2⟩ : ∃ X2, Hid (T (l.drop st) = X2) := ⟨_, rfl⟩
          rw [hX2.out] at s1 W1
          go_wp2_with fail
          refine (W1 _ hA.out.1 (by have := HQ.out; omega) hA.out.2.size).mono ?_; rintro e w4 ⟨rfl, h5, h6⟩
          have A4 : Aside (Bld w1.heap.size w1.heap.size (acc ++ l.drop st) w4 ∧ Below w1.heap.size w1 w4) := ⟨h5, hA.out.2.trans h6⟩
          have S4 := ST w4 A4.out.1 A4.out.2.size
          clear h5 h6 ST
          rw [V.out] at S4
          go_wp2_with fail
          refine S4.mono ?_; rintro e w5 ⟨rfl, hb⟩
          have A5 : Aside (Below w1.heap.size w1 w5) := A4.out.2.trans hb.2
          clear hb
          go_wp2_with fail
          go_ret
          exact ⟨rfl, A5.out⟩
  go_enter Tryd.func42, Tryd.ntmps42
  go_wp2_with fail
  refine key.mono ?_; rintro e w1 ⟨rfl, hb⟩
  go_wp2_with fail
  go_ret
  exact ⟨rfl, hb⟩
end Go.Proofs.YtnjiogfnjpnjfaaDoor.media
