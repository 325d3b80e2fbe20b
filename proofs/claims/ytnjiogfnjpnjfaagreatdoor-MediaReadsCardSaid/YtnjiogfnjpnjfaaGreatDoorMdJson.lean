/- media.JSON and the document's. -/
import Derived.Test.YtnjiogfnjpnjfaaGreatDoorMdFind
import Derived.Laws.Strings3
set_option linter.unusedSimpArgs false
set_option linter.unusedVariables false
namespace Go.Proofs.YtnjiogfnjpnjfaaGreatDoor.media
open Go.RowKit Go.Proofs.YtnjiogfnjpnjfaaGreatDoor.errs

def appL : List UInt8 := [97, 112, 112, 108, 105, 99, 97, 116, 105, 111, 110]
def jsonL : List UInt8 := [106, 115, 111, 110]
def pkcsL : List UInt8 := [112, 107, 99, 115, 55, 45, 109, 105, 109, 101]
def sufL : List UInt8 := [43, 106, 115, 111, 110]
/-- Is a kind of content JSON? -/
def isJson (t u : ByteArray) : Bool := (t.toList == appL) && ((u.toList == jsonL || u.toList == pkcsL) || (decide (5 < u.size) && ((T (u.data.toList.drop (u.size - 5))).toList == sufL)))

theorem suffix_drop (l s : List UInt8) : Lib.hasSuffix l s = (decide (s.length ≤ l.length) && (l.drop (l.length - s.length) == s)) := by
  unfold Lib.hasSuffix
  rw [Bool.eq_iff_iff, List.isSuffixOf_iff_suffix, Bool.and_eq_true, decide_eq_true_iff, beq_iff_eq]
  refine ⟨fun h => ⟨h.length_le, (List.suffix_iff_eq_drop.1 h).symm⟩, fun h => List.suffix_iff_eq_drop.2 h.2.symm⟩
theorem ne_of (a b : List UInt8) : (a != b) = !(a == b) := rfl

set_option maxRecDepth 100000 in
set_option maxHeartbeats 1000000 in
theorem json_any (t u : ByteArray) (ad : Option Addr) (n c : Nat) (w : World) (hu : u.size ≤ 1000000) :
    Calls Tryz.prog 30 #[.agg #[.string t, .string u, .slice ad n c]] w fun e w' => e = .returned (.bool (isJson t u)) ∧ Below w.heap.size w w' := by
  have CS : ∀ w, Calls Tryz.prog 52 #[.string u, .string ⟨#[43, 106, 115, 111, 110]⟩] w fun e w' => e = .returned (.tuple #[.string (T (Lib.trimSuffix u.data.toList sufL)), .bool (Lib.hasSuffix u.data.toList sufL)]) ∧ w' = w := fun w => Tryz.strings_CutSuffix u ⟨#[43, 106, 115, 111, 110]⟩ w (by omega)
  have SD := suffix_drop u.data.toList sufL
  have lu : u.data.toList.length = u.size := Array.length_toList
  rw [lu, show sufL.length = 5 from rfl] at SD
  have e6 : (T (u.data.toList.drop (u.size - 5))).toList = u.data.toList.drop (u.size - 5) := empty_list _
  unfold isJson
  rw [e6]
  have TS : Lib.hasSuffix u.data.toList sufL = true → (T (Lib.trimSuffix u.data.toList sufL)).toList = u.data.toList.take (u.size - 5) := fun h => by
    rw [empty_list]
    unfold Lib.trimSuffix
    rw [if_pos h, lu]; rfl
  have N1 := ne_of t.toList appL
  have F : Hid ((decide (5 < u.size) && (u.data.toList.drop (u.size - 5) == sufL)) = (Lib.hasSuffix u.data.toList sufL && !((T (Lib.trimSuffix u.data.toList sufL)).toList == []))) := by
    show _ = _
    cases hs : Lib.hasSuffix u.data.toList sufL with
    | false =>
      rw [hs] at SD
      rw [Bool.false_and]
      by_cases h5 : 5 < u.size
      · rw [decide_eq_true h5, Bool.true_and]
        rw [decide_eq_true (by omega), Bool.true_and] at SD
        exact SD.symm
      · rw [decide_eq_false h5]; rfl
    | true =>
      rw [hs] at SD
      have h1 := Bool.and_eq_true_iff.1 SD.symm
      rw [h1.2, TS hs, Bool.and_true, Bool.true_and]
      have h5 := of_decide_eq_true h1.1
      by_cases h6 : 5 < u.size
      · rw [decide_eq_true h6]
        have : u.data.toList.take (u.size - 5) ≠ [] := fun e => by
          have := congrArg List.length e
          rw [List.length_take, lu] at this
          simp at this
          omega
        rw [beq_eq_false_iff_ne.2 this]; rfl
      · rw [decide_eq_false h6, show u.size - 5 = 0 by omega]; rfl
  rw [F.out]
  clear SD e6 TS F lu
  generalize Lib.hasSuffix u.data.toList sufL = q5 at *
  generalize T (Lib.trimSuffix u.data.toList sufL) = A at *
  have N6 := ne_of A.toList []
  have E6 : A.toList.isEmpty = (A.toList == []) := by cases A.toList <;> rfl
  obtain ⟨q1, h1⟩ : ∃ q, (t.toList == appL) = q := ⟨_, rfl⟩
  obtain ⟨q2, h2⟩ : ∃ q, (u.toList == jsonL) = q := ⟨_, rfl⟩
  obtain ⟨q3, h3⟩ : ∃ q, (u.toList == pkcsL) = q := ⟨_, rfl⟩
  obtain ⟨q6, h6⟩ : ∃ q, (A.toList == []) = q := ⟨_, rfl⟩
  rw [h1] at N1 ⊢
  rw [h2, h3]
  rw [h6] at N6 E6 ⊢
  unfold appL at h1 N1
  unfold jsonL at h2
  unfold pkcsL at h3
  cases q1 with
  | false =>
    clear h2 h3 h6 N6 E6 CS
    go_enter Tryz.func30, Tryz.ntmps30
    go_wp2_with fail
    go_ret
    exact ⟨rfl, (Below.refl _ _).alloc (Nat.le_refl _) _⟩
  | true =>
    cases q2 <;> cases q3 <;> cases q5 <;> cases q6
    all_goals
      go_enter Tryz.func30, Tryz.ntmps30
      go_wp2_with fail
      refine (CS _).mono ?_; rintro e w2 ⟨rfl, rfl⟩
      go_wp2_with fail
      go_ret
      exact ⟨rfl, (Below.refl _ _).alloc (Nat.le_refl _) _⟩

end Go.Proofs.YtnjiogfnjpnjfaaGreatDoor.media
