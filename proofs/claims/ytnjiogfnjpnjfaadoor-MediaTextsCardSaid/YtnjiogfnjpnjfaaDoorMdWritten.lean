/- media.Token, media.written. -/
import Derived.Test.YtnjiogfnjpnjfaaDoorMdRep
import Derived.Test.YtnjiogfnjpnjfaaDoorMdRound
set_option linter.unusedSimpArgs false
set_option linter.unusedVariables false
namespace Go.Proofs.YtnjiogfnjpnjfaaDoor.media
open Go.RowKit Go.Proofs.YtnjiogfnjpnjfaaDoor.errs Go.Proofs.YtnjiogfnjpnjfaaDoor.build

theorem tok_rest (l : List UInt8) : isTokL l = (okN (spanN inTok l) && (l.drop (spanN inTok l) == [])) := by
  by_cases h : l.all inTok = true
  · have hs : spanN inTok l = l.length := by
      have := span_ends l [] h ends_nil
      rwa [List.append_nil] at this
    unfold isTokL
    rw [h, hs, List.drop_length, Bool.true_and]
    unfold okN
    by_cases h1 : 1 ≤ l.length <;> by_cases h2 : l.length ≤ 100 <;> simp [h1, h2]
  · have hd : (l.drop (spanN inTok l) == []) = false := by
      refine beq_eq_false_iff_ne.2 (fun e => h ?_)
      have := span_all inTok l
      rwa [show l.take (spanN inTok l) = l by
        have := List.take_append_drop (spanN inTok l) l
        rwa [e, List.append_nil] at this] at this
    unfold isTokL
    rw [Bool.not_eq_true] at h
    rw [h, hd, Bool.and_false, Bool.false_and]

set_option maxRecDepth 100000 in
set_option maxHeartbeats 1000000 in
theorem token_any (l : List UInt8) (hl : l.length ≤ 1000000) (w : World) :
    Calls Tryd.prog 41 #[.string (T l)] w fun e w' => e = .returned (.bool (isTokL l)) ∧ Below w.heap.size w w' := by
  have C := cutToken_any l hl
  rw [tok_rest l]
  have tc : tokC l = if okN (spanN inTok l) then some (l.take (spanN inTok l), l.drop (spanN inTok l)) else none := rfl
  have e1 := empty_list' (l.drop (spanN inTok l))
  rw [tc] at C
  generalize spanN inTok l = n at *
  cases ho : okN n with
  | false =>
    rw [ho, if_neg (by decide)] at C
    simp only [cutV] at C
    clear tc e1 ho
    generalize T l = R at *
    go_enter Tryd.func41, Tryd.ntmps41
    go_wp2_with fail
    refine (C _).mono ?_; rintro e w1 ⟨rfl, hb⟩
    go_wp2_with fail
    go_ret
    exact ⟨rfl, hb⟩
  | true =>
    rw [ho, if_pos rfl] at C
    simp only [cutV] at C
    have E2 : (T (l.drop n)).toList.isEmpty = (l.drop n == []) := by rw [e1]; cases l.drop n <;> rfl
    have E1 : ((T (l.drop n)).toList == []) = (l.drop n == []) := by rw [e1]
    clear tc e1 ho
    rw [Bool.true_and]
    generalize (l.drop n == []) = q at *
    generalize T (l.drop n) = B at *
    generalize T (l.take n) = A at *
    generalize T l = R at *
    go_enter Tryd.func41, Tryd.ntmps41
    go_wp2_with fail
    refine (C _).mono ?_; rintro e w1 ⟨rfl, hb⟩
    go_wp2_with fail
    go_ret
    exact ⟨rfl, hb⟩

theorem rep_append (c : UInt8) (nb a b : List UInt8) : rep c nb (a ++ b) = rep c nb a ++ rep c nb b := List.flatMap_append
theorem rep_twice (v : List UInt8) : rep 34 [92, 34] (rep 92 [92, 92] v) = esc v := by
  induction v with
  | nil => rfl
  | cons x v ih =>
    have e : rep 92 [92, 92] (x :: v) = (if x = 92 then [92, 92] else [x]) ++ rep 92 [92, 92] v := rfl
    rw [e, rep_append, ih]
    have e2 : esc (x :: v) = escB x ++ esc v := rfl
    rw [e2]
    congr 1
    unfold escB
    by_cases h1 : x = 92
    · subst h1; rfl
    · rw [if_neg h1]
      by_cases h2 : x = 34
      · subst h2; rfl
      · rw [if_neg h2]
        unfold rep
        rw [List.flatMap_cons, if_neg h2]; rfl
theorem rep_length (c : UInt8) (nb : List UInt8) (hn : nb.length = 2) (l : List UInt8) : (rep c nb l).length ≤ 2 * l.length := by
  induction l with
  | nil => exact Nat.zero_le _
  | cons x l ih =>
    have e : rep c nb (x :: l) = (if x = c then nb else [x]) ++ rep c nb l := rfl
    rw [e, List.length_append, List.length_cons]
    split
    · omega
    · rw [List.length_singleton]; omega
theorem T_append (a b : List UInt8) : T a ++ T b = T (a ++ b) := by
  apply ByteArray.ext
  rw [ByteArray.data_append]
  exact (List.append_toArray a b)

set_option maxRecDepth 100000 in
set_option maxHeartbeats 1000000 in
theorem written_any (v : List UInt8) (hl : v.length ≤ 2000) (w : World) :
    Calls Tryd.prog 26 #[.string (T v)] w fun e w' => e = .returned (.string (T (wr v))) ∧ Below w.heap.size w w' := by
  have C := token_any v (by omega)
  cases ht : isTokL v with
  | true =>
    rw [ht] at C
    have e : wr v = v := by unfold wr; rw [if_pos ht]
    rw [e]
    clear e ht
    generalize T v = R at *
    go_enter Tryd.func26, Tryd.ntmps26
    go_wp2_with fail
    refine (C _).mono ?_; rintro e w1 ⟨rfl, hb⟩
    go_wp2_with fail
    go_ret
    exact ⟨rfl, hb⟩
  | false =>
    rw [ht] at C
    have r1 := rep_length 92 [92, 92] rfl v
    have r2 := rep_length 34 [92, 34] rfl (rep 92 [92, 92] v)
    have C1 : ∀ w, Calls Tryd.prog 42 #[.string (T v), .string ⟨#[92]⟩, .string ⟨#[92, 92]⟩] w fun e w' => e = .returned (.string (T (rep 92 [92, 92] v))) ∧ Below w.heap.size w w' := fun w => replaceAll_any 92 [92, 92] rfl v (by omega) w
    have C2 : ∀ w, Calls Tryd.prog 42 #[.string (T (rep 92 [92, 92] v)), .string ⟨#[34]⟩, .string ⟨#[92, 34]⟩] w fun e w' => e = .returned (.string (T (rep 34 [92, 34] (rep 92 [92, 92] v)))) ∧ Below w.heap.size w w' := fun w => replaceAll_any 34 [92, 34] rfl _ (by omega) w
    have e : T (wr v) = (⟨#[34]⟩ ++ T (rep 34 [92, 34] (rep 92 [92, 92] v))) ++ ⟨#[34]⟩ := by
      unfold wr
      rw [if_neg (by rw [ht]; decide), ← rep_twice v]
      show _ = (T [34] ++ T _) ++ T [34]
      rw [T_append, T_append]; rfl
    rw [e]
    have sz : (T (rep 34 [92, 34] (rep 92 [92, 92] v))).size ≤ 8000 := by rw [T_size]; omega
    clear e ht r1 r2
    generalize T (rep 34 [92, 34] (rep 92 [92, 92] v)) = R3 at *
    generalize T (rep 92 [92, 92] v) = R2 at *
    generalize T v = R at *
    have z1 : ¬ 9223372036854775807 < (⟨#[34]⟩ : ByteArray).size + R3.size := by show ¬ _ < 1 + _; omega
    have z2 : ¬ 9223372036854775807 < ((⟨#[34]⟩ : ByteArray) ++ R3).size + (⟨#[34]⟩ : ByteArray).size := by rw [ByteArray.size_append]; show ¬ _ < 1 + _ + 1; omega
    go_enter Tryd.func26, Tryd.ntmps26
    go_wp2_with fail
    refine (C _).mono ?_; rintro e w1 ⟨rfl, hb⟩
    have K1 := Lib.hid hb
    clear hb
    go_wp2_with fail
    refine (C1 _).mono ?_; rintro e w2 ⟨rfl, hb⟩
    have K2 : Hid (Below w.heap.size w w2) := K1.out.trans (hb.mono K1.out.size)
    clear hb K1
    go_wp2_with fail
    refine (C2 _).mono ?_; rintro e w3 ⟨rfl, hb⟩
    have K3 : Hid (Below w.heap.size w w3) := K2.out.trans (hb.mono K2.out.size)
    clear hb K2
    go_wp2_with fail
    go_ret
    exact ⟨rfl, K3.out⟩
end Go.Proofs.YtnjiogfnjpnjfaaDoor.media
