/- The document's example of layer 28. -/
import Derived.Test.YtmgdkdohadaknaaDoorPkWeb
import Derived.Test.YtmgdkdohadaknaaDoorPkWords
set_option linter.unusedSimpArgs false
set_option linter.unusedVariables false
namespace Go.Proofs.YtmgdkdohadaknaaDoor.pick
open Go.RowKit Go.Proofs.YtmgdkdohadaknaaDoor.errs Go.Proofs.YtmgdkdohadaknaaDoor.wire

def two : List ByteArray := [⟨#[97]⟩, ⟨#[98]⟩]
theorem two_words : wordsT ⟨4, two, 9⟩ = ⟨#[99, 104, 111, 111, 115, 101, 58, 115, 101, 118, 101, 114, 97, 108, 32, 97, 32, 98]⟩ := by kernel_rfl
theorem two_small : (wordsL ⟨4, two, 9⟩).length ≤ 140737488355328 := by
  have e : (wordsL ⟨4, two, 9⟩).length = 18 := by kernel_rfl
  omega
set_option maxRecDepth 100000 in
set_option maxHeartbeats 1000000 in
theorem speaks_any (w : World) (hT : Tabs w) :
    Calls Tryd.prog 8 #[] w fun e w' => e = .returned (.bool true) ∧ Below w.heap.size w w' := by
  obtain ⟨W, hW⟩ : ∃ W, w.alloc (.cells #[.string ⟨#[97]⟩, .string ⟨#[98]⟩] 9) = W := ⟨_, rfl⟩
  have hB : Below w.heap.size w W := by rw [← hW]; exact (Below.refl _ w).alloc (Nat.le_refl _) _
  have hs : StrsIn W (.slice (some ⟨w.heap.size, 0, none⟩) 2 2) two := by
    refine ⟨_, 2, rfl, Nat.le_refl _, by omega, fun _ => ⟨w.heap.size, 0, rfl, fun j hj => ?_⟩⟩
    have hj : j < 2 := hj
    rw [← hW, World.cell?_alloc_at _ _ _ _ rfl]
    rcases (show j = 0 ∨ j = 1 by omega) with rfl | rfl <;> rfl
  have C := custom_any two (by intro s hs; simp [two] at hs; rcases hs with rfl | rfl <;> decide) (by decide) _ W hs
  rw [show customA two = ⟨4, two, 9⟩ by kernel_rfl] at C
  have WD := fun v W' (h : AnsV W' v ⟨4, two, 9⟩) (hT : Tabs W') => words_any ⟨4, two, 9⟩ two_small v W' h hT
  rw [two_words] at WD
  have HT := Lib.hid (hT.below hB)
  have HB := Lib.hid hB
  have HW := Lib.hid hW
  clear hB hs hT hW
  go_enter Tryd.func8, Tryd.ntmps8
  go_wp2_with fail
  rw [HW.out]
  refine C.mono ?_; rintro e w1 ⟨x, rfl, hx, hb⟩
  have T1 := HT.out.below hb
  have D := fun W' (hb' : Below w1.heap.size w1 W') => WD x W' (hx.below hb') (T1.below hb')
  have HB1 : Hid (Below w.heap.size w w1) := HB.out.trans (hb.mono HB.out.size)
  obtain ⟨s, rfl, hs⟩ := hx
  obtain ⟨sa, sc, rfl⟩ := hs.form
  obtain ⟨W2, hW2⟩ : ∃ W2, Hid (w1.alloc (.cells #[.int .i64 4, .slice sa 2 sc, .int .i64 9] 29) = W2) := ⟨_, rfl⟩
  have D := D W2 (by rw [← hW2.out]; exact (Below.refl _ w1).alloc (Nat.le_refl _) _)
  have HB2 : Hid (Below w.heap.size w W2) := by rw [← hW2.out]; exact HB1.out.alloc HB1.out.size _
  rw [show two.length = 2 from rfl] at D ⊢
  clear hb T1 hs C WD
  go_wp2_with fail
  rw [hW2.out]
  refine D.mono ?_; rintro e w2 ⟨rfl, hb⟩
  have HB3 := Lib.hid (HB2.out.trans (hb.mono HB2.out.size))
  clear hb D
  go_wp2_with fail
  go_ret
  exact ⟨rfl, HB3.out⟩
end Go.Proofs.YtmgdkdohadaknaaDoor.pick
