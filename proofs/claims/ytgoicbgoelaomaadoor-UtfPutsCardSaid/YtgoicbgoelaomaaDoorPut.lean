/- utf.Put: a character's bytes in memory of its own, or a fault at 0. -/
import Derived.Test.YtgoicbgoelaomaaDoorPutMath
set_option linter.unusedSimpArgs false
set_option linter.unusedVariables false
namespace Go.Proofs.YtgoicbgoelaomaaDoor.put
open Go.RowKit Go.Proofs.YtgoicbgoelaomaaDoor.errs Go.Proofs.YtgoicbgoelaomaaDoor.utf Go.Proofs.YtgoicbgoelaomaaDoor.umath Go.Proofs.YtgoicbgoelaomaaDoor.text Go.Proofs.YtgoicbgoelaomaaDoor.ref Go.Proofs.YtgoicbgoelaomaaDoor.chars

theorem upto_one (x : Int) : upto [x] 1 = put x := by simp [upto]
theorem badAt_one (x : Int) : badAt [x] = if right x = true then none else some 0 := by
  cases h : right x with
  | true =>
    rw [if_pos rfl]
    refine badAt_none (fun j hj => ?_)
    obtain rfl : j = 0 := by simpa using hj
    simpa using h
  | false => rw [if_neg (by decide)]; exact badAt_some (by simp) (by simpa using h) (fun j hj => by omega)

theorem nums_one (w : World) (x : Int) : Nums (w.alloc (.cells #[.int .i64 x] 3)) (.slice (some ⟨w.heap.size, 0, none⟩) 1 1) [x] := by
  refine ⟨_, 1, rfl, Nat.le_refl _, by decide, fun _ => ⟨_, 0, rfl, fun j hj => ?_⟩⟩
  obtain rfl : j = 0 := by simpa using hj
  rw [World.cell?_alloc_at _ _ _ _ rfl]
  simp

theorem put_good (x : Int) (w : World) (h : right x = true) :
    Calls Tryd.prog 28 #[.int .i64 x] w fun e w' => ∃ g c, e = .returned (.tuple #[.slice (some ⟨g, 0, none⟩) (put x).length c, .nilIface]) ∧ Aside (w'.ownsRow w.heap.size 5 1 (.slice (some ⟨g, 0, none⟩) (put x).length c) (put x).length (cellsOf (put x)) ∧ Below w.heap.size w w') := by
  have T : Calls Tryd.prog 21 #[.slice (some ⟨w.heap.size, 0, none⟩) 1 1] (w.alloc (.cells #[.int .i64 x] 3)) fun e w' => ∃ g c, e = .returned (.tuple #[.slice (some ⟨g, 0, none⟩) (put x).length c, .nilIface]) ∧ Aside (w'.ownsRow w.heap.size 5 1 (.slice (some ⟨g, 0, none⟩) (put x).length c) (put x).length (cellsOf (put x)) ∧ Below w.heap.size w w') := by
    have := text_any [x] _ _ (nums_one w x) (by simp)
    rw [badAt_one, if_pos h] at this
    refine this.mono fun e w' ⟨v, h1, h2, h3⟩ => ?_
    rw [show [x].length = 1 from rfl, upto_one] at h2
    obtain ⟨l1, l2⟩ := put_length x
    obtain ⟨a, c, rfl, -, -, h4⟩ := own_open h2
    obtain ⟨g, rfl, -, -⟩ := h4 (by omega)
    exact ⟨g, c, h1, h2.mono (by simp), ((Below.refl w.heap.size w).alloc (Nat.le_refl _) _).trans (h3.mono (by simp))⟩
  generalize put x = l at *
  go_enter Tryd.func28, Tryd.ntmps28
  go_wp2_with fail
  refine T.mono ?_; rintro e w' ⟨g, c, rfl, hP⟩
  go_wp2_with fail
  go_ret2
  exact ⟨g, c, rfl, hP⟩

theorem put_none (x : Int) (w : World) (h : right x = false) :
    Calls Tryd.prog 28 #[.int .i64 x] w fun e w' => Failed w e w' 16 0 fun v => .tuple #[.slice none 0 0, v] := by
  have T : Calls Tryd.prog 21 #[.slice (some ⟨w.heap.size, 0, none⟩) 1 1] (w.alloc (.cells #[.int .i64 x] 3)) fun e w' => ∃ bb, e = .returned (.tuple #[.slice none 0 0, .iface 59 (.pointer (some ⟨bb, 0, none⟩))]) ∧ Aside (FaultAt w' (.iface 59 (.pointer (some ⟨bb, 0, none⟩))) 16 0 .nilIface ∧ Below w.heap.size w w') := by
    have := text_any [x] _ _ (nums_one w x) (by simp)
    rw [badAt_one, if_neg (by rw [h]; decide)] at this
    refine this.mono fun e w' hF => ?_
    obtain ⟨bb, e1, hF⟩ := Failed.opened e w' hF
    exact ⟨bb, e1, hF.out.1, ((Below.refl w.heap.size w).alloc (Nat.le_refl _) _).trans (hF.out.2.mono (by simp))⟩
  go_enter Tryd.func28, Tryd.ntmps28
  go_wp2_with fail
  refine T.mono ?_; rintro e w' ⟨bb, rfl, hF⟩
  go_wp2_with fail
  go_ret2
  exact ⟨_, rfl, hF.out.1, hF.out.2⟩
end Go.Proofs.YtgoicbgoelaomaaDoor.put
