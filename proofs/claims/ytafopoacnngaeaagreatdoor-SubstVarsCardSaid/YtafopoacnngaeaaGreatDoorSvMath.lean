/- What is wrong with a variable: the document's answer as a function; the name's own test. -/
import Derived.Test.YtafopoacnngaeaaGreatDoorSvMark
import Derived.Test.YtafopoacnngaeaaGreatDoorSbCheck
import Derived.Test.YtafopoacnngaeaaGreatDoorSbClass
set_option linter.unusedSimpArgs false
set_option linter.unusedVariables false
namespace Go.Proofs.YtafopoacnngaeaaGreatDoor.subst
open Go.RowKit Go.Proofs.YtafopoacnngaeaaGreatDoor.errs Go.Proofs.YtafopoacnngaeaaGreatDoor.rows Go.Proofs.YtafopoacnngaeaaGreatDoor.utf Go.Proofs.YtafopoacnngaeaaGreatDoor.glref Go.Proofs.YtafopoacnngaeaaGreatDoor.gmath Go.Proofs.YtafopoacnngaeaaGreatDoor.chars Go.Proofs.YtafopoacnngaeaaGreatDoor.marks

/-- Can a text be a variable's name? -/
def nameOk (s : ByteArray) : Bool := !decide (s.size = 0) && (decide (s.size ≤ 64) && (!hasMark s && (firstBad s).isNone))
def badName (s : ByteArray) : Bool := !nameOk s || isOwn s.data.toList
theorem badName_is (s : ByteArray) : badName s = (decide (s.size = 0) || (decide (64 < s.size) || (isOwn s.data.toList || (!(firstBad s).isNone || (s.data.toList.contains 36 || (s.data.toList.contains 40 || s.data.toList.contains 41)))))) := by
  unfold badName nameOk
  rw [hasMark_is]
  have e : decide (64 < s.size) = !decide (s.size ≤ 64) := by
    by_cases h : s.size ≤ 64
    · rw [decide_eq_true h, decide_eq_false (by omega)]; rfl
    · rw [decide_eq_false h, decide_eq_true (by omega)]; rfl
  rw [e]
  generalize decide (s.size = 0) = b1
  generalize decide (s.size ≤ 64) = b2
  generalize isOwn s.data.toList = b3
  generalize (firstBad s).isNone = b4
  generalize s.data.toList.contains 36 = b5
  generalize s.data.toList.contains 40 = b6
  generalize s.data.toList.contains 41 = b7
  revert b1 b2 b3 b4 b5 b6 b7
  decide
/-- What is wrong with values, from one on: the error's number, its place, the number of the error that it came from. -/
def varFrom (i : Nat) : List ByteArray → Int × Int × Int
  | [] => (0, 0, 0)
  | s :: r => if s.data.toList.contains 36 then (11, (i : Int), 0) else if okP s then varFrom (i + 1) r else (11, (i : Int), (checkOf s).1)
def varOf (nm : ByteArray) (vs : List ByteArray) : Int × Int × Int := if badName nm then (30, 0, 0) else if 256 < vs.length then (15, 256, 0) else varFrom 0 vs
theorem drop_val (vs : List ByteArray) (k : Nat) (h : k < vs.length) : vs.drop k = vs.getD k ⟨#[]⟩ :: vs.drop (k + 1) := by
  rw [List.drop_eq_getElem_cons h, List.getD_eq_getElem?_getD, List.getElem?_eq_getElem h]
  rfl

set_option maxRecDepth 100000 in
set_option maxHeartbeats 2000000 in
theorem named_any (s : ByteArray) (hz : s.size ≤ 1000000) (w : World) (hT : Tabs w) :
    Calls Tryz.prog 38 #[.string s] w fun e w' => e = .returned (.bool (nameOk s)) ∧ Below w.heap.size w w' := by
  have CA : Calls Tryz.prog 65 #[.string s, .string ⟨#[36, 40, 41]⟩] w fun e w' => e = .returned (.bool (hasMark s)) ∧ Below w.heap.size w w' := containsAny_any s hz w
  have RA := Lib.hid fun (w' : World) (hb : Keeps w w') => right_any s hz w' (hT.below hb (Nat.le_refl _))
  unfold nameOk
  clear hT
  by_cases h0 : s.size = 0
  · obtain rfl : s = ⟨#[]⟩ := by
      obtain ⟨⟨l⟩⟩ := s
      have : l.length = 0 := h0
      rw [List.length_eq_zero_iff.1 this]
    rw [decide_eq_true h0]
    clear h0 CA
    go_enter Tryz.func38, Tryz.ntmps38
    go_wp2_with fail
    go_ret
    exact ⟨rfl, Below.refl _ _⟩
  · have e0 : s.toList.isEmpty = false := by
      rw [ByteArray.toList_eq]
      cases hl : s.data.toList with
      | nil => exact absurd (by have : s.data.toList.length = s.size := Array.length_toList; rw [hl] at this; exact this.symm) h0
      | cons a l => rfl
    rw [decide_eq_false h0]
    by_cases h1 : s.size ≤ 64
    · have x1 : (s.size : Int) ≤ 64 := by omega
      rw [decide_eq_true h1]
      clear h0 h1
      generalize hasMark s = m at *
      cases m with
      | true =>
        go_enter Tryz.func38, Tryz.ntmps38
        go_wp2_with fail
        refine CA.mono ?_; rintro e w1 ⟨rfl, hb⟩
        go_wp2_with fail
        go_ret
        exact ⟨rfl, hb⟩
      | false =>
        generalize (firstBad s).isNone = r at *
        go_enter Tryz.func38, Tryz.ntmps38
        go_wp2_with fail
        refine CA.mono ?_; rintro e w1 ⟨rfl, hb⟩
        have K1 := Lib.hid hb
        have R := RA.out w1 hb
        clear hb
        go_wp2_with fail
        refine R.mono ?_; rintro e w2 ⟨rfl, hb⟩
        have K2 := Lib.hid (Keeps.step K1.out hb)
        clear hb R
        go_wp2_with fail
        go_ret
        exact ⟨by simp, K2.out⟩
    · have x1 : ¬ (s.size : Int) ≤ 64 := by omega
      rw [decide_eq_false h1]
      clear h0 h1 CA
      go_enter Tryz.func38, Tryz.ntmps38
      go_wp2_with fail
      go_ret
      exact ⟨rfl, Below.refl _ _⟩
end Go.Proofs.YtafopoacnngaeaaGreatDoor.subst
