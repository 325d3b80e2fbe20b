/- The example of the document, as the statements of layer 1 ask it first: it holds in every world that the program's text has laid. -/
import Derived.Test.YtgoicbgoelaomaaDoorValid
import Derived.Test.YtgoicbgoelaomaaDoorHas
namespace Go.Proofs.YtgoicbgoelaomaaDoor.utf
open Go.RowKit Go.Proofs.YtgoicbgoelaomaaDoor.errs

def euro : ByteArray := ⟨#[226, 130, 172]⟩
def wrongs : ByteArray := ⟨#[97, 192, 128]⟩
theorem euro_char : Utf8.decode euro 0 = (8364, 3) := by kernel_rfl
theorem wrongs_bad : firstBad wrongs = some 1 := by kernel_rfl
theorem bytes_new3 (w : World) (x y z : UInt8) : Bytes ⟨#[x, y, z]⟩ w.heap.size 0 (w.alloc (.cells #[.int .u8 x.toNat, .int .u8 y.toNat, .int .u8 z.toNat] 5)) := by
  intro j hj
  have hj : j < 3 := hj
  rw [World.cell?_alloc_at _ _ _ _ rfl]
  rcases (show j = 0 ∨ j = 1 ∨ j = 2 by omega) with rfl | rfl | rfl <;> rfl

set_option maxHeartbeats 1000000 in
theorem speaks_any (w : World) (hT : Tabs w) (hL : Laid w) :
    Calls Tryd.prog 10 #[] w fun e w' => e = .returned (.bool true) ∧ Below w.heap.size w w' := by
  have b1 : Below w.heap.size w (w.alloc (.cells #[.int .u8 226, .int .u8 130, .int .u8 172] 5)) := (Below.refl _ w).alloc (Nat.le_refl _) _
  have C := next_char euro w.heap.size 0 3 0 _ (hT.below b1 (Nat.le_refl _)) (bytes_new3 w 226 130 172) (by decide) (by decide) (by decide) (by kernel_rfl)
  rw [euro_char] at C
  have C : Calls Tryd.prog 16 #[.slice (some ⟨w.heap.size, 0, none⟩) 3 3, .int .i64 0] (w.alloc (.cells #[.int .u8 226, .int .u8 130, .int .u8 172] 5)) fun e w' => e = .returned (.tuple #[.int .i64 8364, .int .i64 3, .nilIface]) ∧ Aside (Below w.heap.size w w') :=
    C.mono fun e w' ⟨h1, h2⟩ => ⟨h1, b1.trans (h2.mono b1.size)⟩
  have D : ∀ w1, Below w.heap.size w w1 → Calls Tryd.prog 19 #[.slice (some ⟨w1.heap.size, 0, none⟩) 3 3] (w1.alloc (.cells #[.int .u8 97, .int .u8 192, .int .u8 128] 5)) fun e w' => ∃ bb, e = .returned (.iface 59 (.pointer (some ⟨bb, 0, none⟩))) ∧ Aside (FaultAt w' (.iface 59 (.pointer (some ⟨bb, 0, none⟩))) 12 1 .nilIface ∧ Below w.heap.size w w') := by
    intro w1 hb
    have b2 : Below w.heap.size w (w1.alloc (.cells #[.int .u8 97, .int .u8 192, .int .u8 128] 5)) := hb.alloc hb.size _
    refine (valid_any wrongs _ _ (hT.below b2 (Nat.le_refl _)) ⟨some ⟨w1.heap.size, 0, none⟩, 3, rfl, by decide, by decide, fun _ => ⟨_, _, rfl, bytes_new3 w1 97 192 128⟩⟩).mono ?_
    intro e w' h
    rw [wrongs_bad] at h
    obtain ⟨bb, h1, h2⟩ := Failed.opened e w' h
    exact ⟨bb, h1, h2.out.1, b2.trans (h2.out.2.mono b2.size)⟩
  have H : Aside (Tabs w ∧ Laid w) := ⟨hT, hL⟩
  clear b1 hT hL
  go_enter Tryd.func10, Tryd.ntmps10
  go_wp2_with fail
  refine C.mono ?_; rintro e w1 ⟨rfl, hb1⟩
  go_wp2_with fail
  refine (D w1 hb1).mono ?_; rintro e w2 ⟨bb, rfl, hF⟩
  have E := has_any [12] _ 12 w2 (hF.out.1.chain .nil)
  have G := at_fault _ .nilIface 12 1 w2 (H.out.2.below hF.out.2 (Nat.le_refl _)) hF.out.1
  have G : Calls Tryd.prog 14 #[.iface 59 (.pointer (some ⟨bb, 0, none⟩))] w2 fun e w' => e = .returned (.int .i64 1) ∧ Aside (Below w.heap.size w w') :=
    G.mono fun e w' ⟨h1, h2⟩ => ⟨h1, hF.out.2.trans (h2.mono hF.out.2.size)⟩
  rw [show tells [12] 12 = true by decide] at E
  go_wp2_with (first | (go_at_call 15; refine E.mono ?_; rintro e w' ⟨rfl, rfl⟩) | (go_at_call 14; refine G.mono ?_; rintro e w' ⟨rfl, hb3⟩))
  go_ret
  exact ⟨rfl, hb3⟩
end Go.Proofs.YtgoicbgoelaomaaDoor.utf
