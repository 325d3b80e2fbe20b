/- For the walk of UtfChars: worlds that differ in one row alone, and right bytes put back. -/
import Derived.Test.YtgoicbgoelaomaaDoorJoinWalk
import Derived.Test.YtgoicbgoelaomaaDoorRefChars
set_option linter.unusedSimpArgs false
set_option linter.unusedVariables false
namespace Go.Proofs.YtgoicbgoelaomaaDoor.utfChars
open Go.RowKit Go.Proofs.YtgoicbgoelaomaaDoor.errs Go.Proofs.YtgoicbgoelaomaaDoor.utf Go.Proofs.YtgoicbgoelaomaaDoor.umath Go.Proofs.YtgoicbgoelaomaaDoor.text Go.Proofs.YtgoicbgoelaomaaDoor.ref Go.Proofs.YtgoicbgoelaomaaDoor.chars

theorem grown_refl (w : World) (r : Option Nat) : w.grownBy w r := ⟨rfl, rfl, rfl, Nat.le_refl _, fun _ _ _ => rfl⟩
theorem grown_trans {a b c : World} {r : Option Nat} (h : a.grownBy b r) (k : b.grownBy c r) : a.grownBy c r :=
  ⟨k.os.trans h.os, k.tape.trans h.tape, k.output.trans h.output, Nat.le_trans h.size k.size, fun i hi hn => (k.block i (Nat.lt_of_lt_of_le hi h.size) hn).trans (h.block i hi hn)⟩

/-- A fault lies in no row of bytes: it stays when one is overwritten. -/
theorem fault_grown {w w' : World} {v inner : Value} {k a : Int} {g : Nat} (h : FaultAt w v k a inner) (hg : w.grownBy w' (some g)) (hne : ∃ n : Int, w.cell? ⟨g, 0, none⟩ = some (.int .u8 n)) : FaultAt w' v k a inner := by
  obtain ⟨bb, rfl, h0, h1, h2⟩ := h
  obtain ⟨n, hn⟩ := hne
  have hb : bb ≠ g := by
    rintro rfl
    rw [h0] at hn
    simp at hn
  have hs : some bb ≠ some g := fun e => hb (Option.some.inj e)
  exact ⟨bb, rfl, hg.cell h0 hs, hg.cell h1 hs, hg.cell h2 hs⟩

/-- Right bytes, read and put back, are the same. -/
theorem back (l : List Int) (hl : ∀ y ∈ l, 0 ≤ y ∧ y ≤ 255) (h : firstBad (frame.bytesOf l) = none) :
    badAt (all (frame.bytesOf l)) = none ∧ upto (all (frame.bytesOf l)) (all (frame.bytesOf l)).length = l := by
  obtain ⟨r1, r2, r3⟩ := unput (frame.bytesOf l) (frame.bytesOf l).size 0 (by omega) (by omega) h
  have hr : ∀ x ∈ all (frame.bytesOf l), right x = true := r1
  constructor
  · refine badAt_none fun j hj => ?_
    rw [List.getD_eq_getElem?_getD, List.getElem?_eq_getElem hj]
    exact hr _ (List.getElem_mem hj)
  · have e : upto (all (frame.bytesOf l)) (all (frame.bytesOf l)).length = (from_ (frame.bytesOf l) (frame.bytesOf l).size 0).flatMap put := by unfold upto; rw [List.take_length]; rfl
    rw [e]
    have hlen : ((from_ (frame.bytesOf l) (frame.bytesOf l).size 0).flatMap put).length = l.length := by rw [frame.bytesOf_size] at r3 ⊢; omega
    refine List.ext_getElem hlen fun j h1 h2 => ?_
    have q1 := r2.2 j h1
    have q2 := (holds_bytesOf l hl).2 j h2
    rw [q1] at q2
    rw [List.getD_eq_getElem?_getD, List.getElem?_eq_getElem h1, List.getD_eq_getElem?_getD, List.getElem?_eq_getElem h2] at q2
    exact q2
end Go.Proofs.YtgoicbgoelaomaaDoor.utfChars
