/- The document's example of layer 19. -/
import Derived.Test.YtoilalffhmjhdaaGreatDoorSbMatch
import Derived.KernelRfl
set_option linter.unusedSimpArgs false
set_option linter.unusedVariables false
namespace Go.Proofs.YtoilalffhmjhdaaGreatDoor.subst
open Go.RowKit Go.Proofs.YtoilalffhmjhdaaGreatDoor.errs Go.Proofs.YtoilalffhmjhdaaGreatDoor.rows Go.Proofs.YtoilalffhmjhdaaGreatDoor.utf

def exP : List UInt8 := [47, 36, 40, 108, 97, 110, 103, 41, 47, 36, 40, 102, 111, 111, 100, 41, 47, 42]
def exV : List Vr := [⟨⟨#[102, 111, 111, 100]⟩, [⟨#[112, 105, 122, 122, 97]⟩, ⟨#[116, 97, 99, 111, 42]⟩]⟩]
theorem ex1 : matchS false exP exV ⟨#[47, 101, 110, 47, 116, 97, 99, 111, 115, 47, 49]⟩ = true := by kernel_rfl
theorem ex2 : matchS false exP exV ⟨#[47, 69, 78, 47, 112, 105, 122, 122, 97, 47]⟩ = false := by kernel_rfl
theorem ex3 : matchS true exP exV ⟨#[47, 69, 78, 47, 112, 105, 122, 122, 97, 47]⟩ = true := by kernel_rfl

theorem strs_at {w : World} {b : Nat} {l : List ByteArray} (h : ∀ j, j < l.length → w.cell? ⟨b, j, none⟩ = some (.string (l.getD j ⟨#[]⟩))) (hl : l.length ≤ 1000000) : StrsIn w (.slice (some ⟨b, 0, none⟩) l.length l.length) l :=
  ⟨_, _, rfl, Nat.le_refl _, by omega, fun _ => ⟨b, 0, rfl, fun j hj => by rw [Nat.zero_add]; exact h j hj⟩⟩
theorem exV_in (w : World) : VarsIn ((w.alloc (.cells #[.string ⟨#[112, 105, 122, 122, 97]⟩, .string ⟨#[116, 97, 99, 111, 42]⟩] 9)).alloc (.cells #[.string ⟨#[102, 111, 111, 100]⟩, .slice (some ⟨w.heap.size, 0, none⟩) 2 2] 36)) (.slice (some ⟨w.heap.size + 1, 0, none⟩) 1 1) exV := by
  have h1 : (w.alloc (.cells #[.string ⟨#[112, 105, 122, 122, 97]⟩, .string ⟨#[116, 97, 99, 111, 42]⟩] 9)).heap[w.heap.size]? = some (.cells #[.string ⟨#[112, 105, 122, 122, 97]⟩, .string ⟨#[116, 97, 99, 111, 42]⟩] 9 (0, 0)) := heap_alloc_new w _
  have s1 : (w.alloc (.cells #[.string ⟨#[112, 105, 122, 122, 97]⟩, .string ⟨#[116, 97, 99, 111, 42]⟩] 9)).heap.size = w.heap.size + 1 := World.size_alloc _ _
  generalize w.alloc (.cells #[.string ⟨#[112, 105, 122, 122, 97]⟩, .string ⟨#[116, 97, 99, 111, 42]⟩] 9) = W at *
  have h2 := heap_alloc_new W (.cells #[.string ⟨#[102, 111, 111, 100]⟩, .slice (some ⟨w.heap.size, 0, none⟩) 2 2] 36)
  have h3 := (Below.heap_alloc W (.cells #[.string ⟨#[102, 111, 111, 100]⟩, .slice (some ⟨w.heap.size, 0, none⟩) 2 2] 36) w.heap.size (by omega)).trans h1
  rw [s1] at h2
  refine ⟨some ⟨w.heap.size + 1, 0, none⟩, 1, rfl, Nat.le_refl _, by decide, fun _ => ⟨w.heap.size + 1, 0, rfl, fun j hj => ?_⟩⟩
  obtain rfl : j = 0 := by have : exV.length = 1 := rfl; omega
  refine ⟨cell_of_heap h2 rfl, _, cell_of_heap h2 rfl, ?_⟩
  refine ⟨some ⟨w.heap.size, 0, none⟩, 2, rfl, Nat.le_refl _, by decide, fun _ => ⟨w.heap.size, 0, rfl, fun i hi => ?_⟩⟩
  rw [Nat.zero_add]
  have hi' : i < 2 := hi
  rcases (show i = 0 ∨ i = 1 by omega) with rfl | rfl
  · exact cell_of_heap h3 rfl
  · exact cell_of_heap h3 rfl
/-- What the laws ask of the world. -/
def Seat (w : World) : Prop := Tabs w ∧ MaxL w ∧ Clss w
theorem Seat.below {w w' : World} (h : Seat w) (hb : Keeps w w') : Seat w' := ⟨h.1.below hb (Nat.le_refl _), h.2.1.below hb (Nat.le_refl _), h.2.2.below hb (Nat.le_refl _)⟩
set_option maxRecDepth 100000 in
set_option maxHeartbeats 2000000 in
theorem speaks_any (w : World) (hS : Seat w) :
    Calls Tryz.prog 5 #[] w fun e w' => e = .returned (.bool true) ∧ Below w.heap.size w w' := by
  have hv := exV_in w
  obtain ⟨W, hW⟩ : ∃ W, (w.alloc (.cells #[.string ⟨#[112, 105, 122, 122, 97]⟩, .string ⟨#[116, 97, 99, 111, 42]⟩] 9)).alloc (.cells #[.string ⟨#[102, 111, 111, 100]⟩, .slice (some ⟨w.heap.size, 0, none⟩) 2 2] 36) = W := ⟨_, rfl⟩
  rw [hW] at hv
  have hB : Keeps w W := by rw [← hW]; exact ((Below.refl _ _).alloc (Nat.le_refl _) _).alloc (by simp) _
  have M : Hid (∀ (fold : Bool) (s : ByteArray) (w' : World), s.size ≤ 1000000 → Keeps W w' → Calls Tryz.prog 14 #[.string ⟨#[47, 36, 40, 108, 97, 110, 103, 41, 47, 36, 40, 102, 111, 111, 100, 41, 47, 42]⟩, .slice (some ⟨w.heap.size + 1, 0, none⟩) 1 1, .string s, .bool fold] w' fun e w'' => e = .returned (.bool (matchS fold exP exV s)) ∧ Below w'.heap.size w' w'') := fun fold s w' hs hk => by
    have hS' := (hS.below hB).below hk
    exact match_any fold exP exV _ s w' (by decide) hS'.1 hS'.2.1 hS'.2.2 (hv.below hk) (by decide) (by decide) hs
  have M1 := M.out false ⟨#[47, 101, 110, 47, 116, 97, 99, 111, 115, 47, 49]⟩ W (by decide) (Below.refl _ _)
  rw [ex1] at M1
  have HB := Lib.hid hB
  have HW := Lib.hid hW
  clear hv hS hW hB
  go_enter Tryz.func5, Tryz.ntmps5
  go_wp2_with fail
  rw [HW.out]
  refine M1.mono ?_; rintro e w1 ⟨rfl, hb1⟩
  have M2 := M.out false ⟨#[47, 69, 78, 47, 112, 105, 122, 122, 97, 47]⟩ w1 (by decide) hb1
  rw [ex2] at M2
  have K1 := Lib.hid hb1
  clear hb1 M1
  go_wp2_with fail
  refine M2.mono ?_; rintro e w2 ⟨rfl, hb2⟩
  have K2 : Hid (Keeps W w2) := K1.out.trans (hb2.mono K1.out.size)
  have M3 := M.out true ⟨#[47, 69, 78, 47, 112, 105, 122, 122, 97, 47]⟩ w2 (by decide) K2.out
  rw [ex3] at M3
  clear hb2 M2
  go_wp2_with fail
  refine M3.mono ?_; rintro e w3 ⟨rfl, hb3⟩
  have K3 : Hid (Keeps W w3) := K2.out.trans (hb3.mono K2.out.size)
  clear hb3 M3
  go_wp2_with fail
  go_ret
  exact ⟨rfl, HB.out.trans (K3.out.mono HB.out.size)⟩
end Go.Proofs.YtoilalffhmjhdaaGreatDoor.subst
