/- media.JSON and the document's. -/
import Derived.Test.YtelofhplpeeplaaDoorMdFind
import Derived.Laws.Strings3
set_option linter.unusedSimpArgs false
set_option linter.unusedVariables false
namespace Go.Proofs.YtelofhplpeeplaaDoor.media
open Go.RowKit Go.Proofs.YtelofhplpeeplaaDoor.errs

def appL : List UInt8 := [97, 112, 112, 108, 105, 99, 97, 116, 105, 111, 110]
def jsonL : List UInt8 := [106, 115, 111, 110]
def pkcsL : List UInt8 := [112, 107, 99, 115, 55, 45, 109, 105, 109, 101]
def sufL : List UInt8 := [43, 106, 115, 111, 110]
/-- Is a kind of content JSON? -/
def isJson (t u : ByteArray) : Bool := (t.toList == appL) && ((u.toList == jsonL || u.toList == pkcsL) || (decide (5 < u.size) && ((T (u.data.toList.drop (u.size - 5))).toList == sufL)))

theorem suffix_drop (l s : List UInt8) : Lib.hasSuffix l s = (decide (s.length ≤ l.length) && (l.drop (l.length - s.length) == s)) := by
  unfold Lib.hasSuffix
  rw [Bool.eq_iff_iff, List.isSuffixOf_iff_suffix, Bool.and_eq_true, decide_eq_true_iff, beq_iff_eq]
  refine ⟨fun h => ⟨h.length_le, (List.suffix_iff_eq_drop.1 h).symm⟩, fun h => List.suffix_iff_eq_drop.2 h.2.symm⟩
theorem ne_of (a b : List UInt8) : (a != b) = !(a == b) := rfl

set_option maxRecDepth 100000 in
set_option maxHeartbeats 1000000 in
theorem json_any (t u : ByteArray) (ad : Option Addr) (n c : Nat) (w : World) (hu : u.size ≤ 1000000) :
    Calls Tryd.prog 51 #[.agg #[.string t, .string u, .slice ad n c]] w fun e w' => e = .returned (.bool (isJson t u)) ∧ Below w.heap.size w w' := by
  have CS : ∀ w, Calls Tryd.prog 65 #[.string u, .string ⟨#[43, 106, 115, 111, 110]⟩] w fun e w' => e = .returned (.tuple #[.string (T (Lib.trimSuffix u.data.toList sufL)), .bool (Lib.hasSuffix u.data.toList sufL)]) ∧ w' = w := fun w => Tryd.strings_CutSuffix u ⟨#[43, 106, 115, 111, 110]⟩ w (by omega)
  have SD := suffix_drop u.data.toList sufL
  have lu : u.data.toList.length = u.size := Array.length_toList
  rw [lu, show sufL.length = 5 from rfl] at SD
  have e6 : (T (u.data.toList.drop (u.size - 5))).toList = u.data.toList.drop (u.size - 5) := empty_list _
  unfold isJson
  rw [e6]
  have TS : Lib.hasSuffix u.data.toList sufL = true → (T (Lib.trimSuffix u.data.toList sufL)).toList = u.data.toList.take (u.size - 5) := fun h => by
    rw [empty_list]
    unfold Lib.trimSuffix
    rw [if_pos h, lu]; rfl
  have N1 := ne_of t.toList appL
  have F : Hid ((decide (5 < u.size) && (u.data.toList.drop (u.size - 5) == sufL)) = (Lib.hasSuffix u.data.toList sufL && !((T (Lib.trimSuffix u.data.toList sufL)).toList == []))) := by
    show _ = _
    cases hs : Lib.hasSuffix u.data.toList sufL with
    | false =>
      rw [hs] at SD
      rw [Bool.false_and]
      by_cases h5 : 5 < u.size
      · rw [decide_eq_true h5, Bool.true_and]
        rw [decide_eq_true (by omega), Bool.true_and] at SD
        exact SD.symm
      · rw [decide_eq_false h5]; rfl
    | true =>
      rw [hs] at SD
      have h1 := Bool.and_eq_true_iff.1 SD.symm
      rw [h1.2, TS hs, Bool.and_true, Bool.true_and]
      have h5 := of_decide_eq_true h1.1
      by_cases h6 : 5 < u.size
      · rw [decide_eq_true h6]
        have : u.data.toList.take (u.size - 5) ≠ [] := fun e => by
          have := congrArg List.length e
          rw [List.length_take, lu] at this
          simp at this
          omega
        rw [beq_eq_false_iff_ne.2 this]; rfl
      · rw [decide_eq_false h6, show u.size - 5 = 0 by omega]; rfl
  rw [F.out]
  clear SD e6 TS F lu
  generalize Lib.hasSuffix u.data.toList sufL = q5 at *
  generalize T (Lib.trimSuffix u.data.toList sufL) = A at *
  have N6 := ne_of A.toList []
  have E6 : A.toList.isEmpty = (A.toList == []) := by cases A.toList <;> rfl
  obtain ⟨q1, h1⟩ : ∃ q, (t.toList == appL) = q := ⟨_, rfl⟩
  obtain ⟨q2, h2⟩ : ∃ q, (u.toList == jsonL) = q := ⟨_, rfl⟩
  obtain ⟨q3, h3⟩ : ∃ q, (u.toList == pkcsL) = q := ⟨_, rfl⟩
  obtain ⟨q6, h6⟩ : ∃ q, (A.toList == []) = q := ⟨_, rfl⟩
  rw [h1] at N1 ⊢
  rw [h2, h3]
  rw [h6] at N6 E6 ⊢
  unfold appL at h1 N1
  unfold jsonL at h2
  unfold pkcsL at h3
  cases q1 with
  | false =>
    clear h2 h3 h6 N6 E6 CS
    go_enter Tryd.func51, Tryd.ntmps51
    go_wp2_with fail
    go_ret
    exact ⟨rfl, (Below.refl _ _).alloc (Nat.le_refl _) _⟩
  | true =>
    cases q2 <;> cases q3 <;> cases q5 <;> cases q6
    all_goals
      go_enter Tryd.func51, Tryd.ntmps51
      go_wp2_with fail
      refine (CS _).mono ?_; rintro e w2 ⟨rfl, rfl⟩
      go_wp2_with fail
      go_ret
      exact ⟨rfl, (Below.refl _ _).alloc (Nat.le_refl _) _⟩

set_option maxRecDepth 100000 in
set_option maxHeartbeats 1000000 in
theorem rjson_any (t u : ByteArray) (ad : Option Addr) (n c : Nat) (w : World) (hu : u.size ≤ 1000000) :
    Calls Tryd.prog 46 #[.agg #[.string t, .string u, .slice ad n c]] w fun e w' => e = .returned (.bool (isJson t u)) ∧ Below w.heap.size w w' := by
  unfold isJson
  have sl : 5 < u.size → ∀ w, (Instr.slice 9 (.string u) (some (.int .i64 ((u.size : Int) - 5))) none none).run Tryd.prog w = .ok (.string (T (u.data.toList.drop (u.size - 5)))) w := fun h w => by
    rw [run_slice_string_from_if (h := Tryd.underlying9), if_pos (by omega), show ((u.size : Int) - 5).toNat = u.size - 5 by omega, cut_T]
    rw [List.take_of_length_le (by rw [List.length_drop, Array.length_toList]; exact Nat.le_refl _)]
  generalize T (u.data.toList.drop (u.size - 5)) = A at *
  obtain ⟨q1, h1⟩ : ∃ q, (t.toList == appL) = q := ⟨_, rfl⟩
  obtain ⟨q2, h2⟩ : ∃ q, (u.toList == jsonL) = q := ⟨_, rfl⟩
  obtain ⟨q3, h3⟩ : ∃ q, (u.toList == pkcsL) = q := ⟨_, rfl⟩
  obtain ⟨q6, h6⟩ : ∃ q, (A.toList == sufL) = q := ⟨_, rfl⟩
  rw [h1, h2, h3, h6]
  unfold appL at h1
  unfold jsonL at h2
  unfold pkcsL at h3
  unfold sufL at h6
  obtain ⟨m, hm⟩ : ∃ m, u.size = m := ⟨_, rfl⟩
  rw [hm] at hu sl ⊢
  have HM := Lib.hid hm
  by_cases h5 : 5 < m
  · have y5 : (5 : Int) < (m : Int) := by omega
    have sl := sl h5
    rw [decide_eq_true h5]
    clear h5
    cases q1 <;> cases q2 <;> cases q3 <;> cases q6
    all_goals
      go_enter Tryd.func46, Tryd.ntmps46
      go_wp2_with fail
      go_ret
      exact ⟨rfl, (Below.refl _ _).alloc (Nat.le_refl _) _⟩
  · have y5 : ¬ (5 : Int) < (m : Int) := by omega
    rw [decide_eq_false h5]
    clear h5 sl h6
    cases q1 <;> cases q2 <;> cases q3
    all_goals
      go_enter Tryd.func46, Tryd.ntmps46
      go_wp2_with fail
      go_ret
      exact ⟨rfl, (Below.refl _ _).alloc (Nat.le_refl _) _⟩
end Go.Proofs.YtelofhplpeeplaaDoor.media
