/- The document's examples of layer 11: they hold in every world that holds what the rows list. -/
import Derived.Test.YtahlkhaehlemcaaGreatDoorQdParse
import Derived.Test.YtahlkhaehlemcaaGreatDoorQdEq
set_option linter.unusedSimpArgs false
set_option linter.unusedVariables false
namespace Go.Proofs.YtahlkhaehlemcaaGreatDoor.qparse
open Go.RowKit Go.Proofs.YtahlkhaehlemcaaGreatDoor.errs Go.Proofs.YtahlkhaehlemcaaGreatDoor.qfields Go.Proofs.YtahlkhaehlemcaaGreatDoor.qread Go.Proofs.YtahlkhaehlemcaaGreatDoor.qlaid

theorem ex1 : parseOf ⟨#[48, 120, 55, 102, 46, 49]⟩ = .good 127 0 0 1 := by kernel_rfl
theorem ex2 : parseOf ⟨#[50, 53, 54]⟩ = .good 0 0 1 0 := by kernel_rfl
theorem ex3 : parseOf ⟨#[49, 46, 50, 46, 51, 46, 50, 53, 54]⟩ = .bad 16 6 := by kernel_rfl

/-- What the rows list, as far as the walks want it. -/
def Lay (w : World) : Prop := Laid w ∧ RangeVar w
theorem Lay.below {w w' : World} (h : Lay w) (hb : Keeps w w') : Lay w' := ⟨h.1.below hb (Nat.le_refl _), h.2.below hb (Nat.le_refl _)⟩

theorem parse_good {s : ByteArray} {a b c d : Nat} (h : parseOf s = .good a b c d) (w : World) (hs : s.size ≤ 1000) (hv : RangeVar w) :
    Calls Tryz.prog 6 #[.string s] w fun e w' => e = .returned (.tuple #[.agg #[.int .u8 a, .int .u8 b, .int .u8 c, .int .u8 d], .nilIface]) ∧ Below w.heap.size w w' := by
  have := parse_any s w hs hv
  rw [h] at this
  exact this
theorem parse_bad {s : ByteArray} {k a : Nat} (h : parseOf s = .bad k a) (w : World) (hs : s.size ≤ 1000) (hv : RangeVar w) :
    Calls Tryz.prog 6 #[.string s] w fun e w' => ∃ bb, e = .returned (.tuple #[.agg #[.int .u8 0, .int .u8 0, .int .u8 0, .int .u8 0], .iface 56 (.pointer (some ⟨bb, 0, none⟩))]) ∧ Aside (FaultAt w' (.iface 56 (.pointer (some ⟨bb, 0, none⟩))) k a .nilIface) ∧ Below w.heap.size w w' := by
  have := parse_any s w hs hv
  rw [h] at this
  refine this.mono ?_
  rintro e w' ⟨bb, rfl, h1, h2, h3⟩
  exact ⟨bb, rfl, h2, h3⟩

/-- An address in a block. -/
def Four (w : World) (b : Nat) (v0 v1 v2 v3 : Value) : Prop := w.cell? ⟨b, 0, none⟩ = some v0 ∧ w.cell? ⟨b, 1, none⟩ = some v1 ∧ w.cell? ⟨b, 2, none⟩ = some v2 ∧ w.cell? ⟨b, 3, none⟩ = some v3
theorem four_new (w : World) (v0 v1 v2 v3 : Value) (T : TypeId) : Four (w.alloc (.cells #[v0, v1, v2, v3] T)) w.heap.size v0 v1 v2 v3 := by
  refine ⟨?_, ?_, ?_, ?_⟩ <;> (rw [World.cell?_alloc_at _ _ _ _ rfl]; rfl)
theorem Four.below {w w' : World} {b : Nat} {v0 v1 v2 v3 : Value} (h : Four w b v0 v1 v2 v3) (hb : Keeps w w') : Four w' b v0 v1 v2 v3 := by
  obtain ⟨h0, h1, h2, h3⟩ := h
  exact ⟨(hb.cell (p := ⟨b, 0, none⟩) (lt_of_cell h0)).trans h0, (hb.cell (p := ⟨b, 1, none⟩) (lt_of_cell h1)).trans h1, (hb.cell (p := ⟨b, 2, none⟩) (lt_of_cell h2)).trans h2, (hb.cell (p := ⟨b, 3, none⟩) (lt_of_cell h3)).trans h3⟩
theorem at_here {w : World} {v inner : Value} {k a : Int} (hL : Laid w) (hf : FaultAt w v k a inner) :
    Calls Tryz.prog 9 #[v] w fun e w' => e = .returned (.int .i64 a) ∧ Below w.heap.size w w' :=
  (at_keeps hL hf (Keeps.refl w)).mono fun _ _ ⟨h1, h2⟩ => ⟨h1, h2⟩

set_option maxRecDepth 100000 in
set_option maxHeartbeats 4000000 in
theorem speaks_any (w : World) (hL : Lay w) :
    Calls Tryz.prog 5 #[] w fun e w' => e = .returned (.bool true) ∧ Below w.heap.size w w' := by
  have HL : Aside (∀ w', Keeps w w' → Lay w') := fun w' hk => hL.below hk
  have P1 := fun w h => parse_good ex1 w (by decide) h
  have P2 := fun w h => parse_good ex2 w (by decide) h
  have P3 := fun w h => parse_bad ex3 w (by decide) h
  have C1 := P1 w hL.2
  clear hL P1
  go_enter Tryz.func5, Tryz.ntmps5
  go_wp2_with fail
  refine C1.mono ?_; rintro e w1 ⟨rfl, hb1⟩
  go_wp2_with fail
  obtain ⟨W1, hW1⟩ : ∃ W1, W1 = w1.alloc (.cells #[.int .u8 127, .int .u8 0, .int .u8 0, .int .u8 1] 24) := ⟨_, rfl⟩
  have Q1 : Aside (Keeps w W1 ∧ Four W1 w1.heap.size (.int .u8 127) (.int .u8 0) (.int .u8 0) (.int .u8 1)) := by rw [hW1]; exact ⟨Keeps.step hb1 (keeps_new _ _), four_new _ _ _ _ _ _⟩
  have C2 := P2 W1 (HL.out W1 Q1.out.1).2
  rw [← hW1]
  clear hW1 hb1
  generalize w1.heap.size = b1 at Q1 ⊢
  refine C2.mono ?_; rintro e w2 ⟨rfl, hb2⟩
  clear C1 C2 P2
  go_wp2_with fail
  obtain ⟨W2, hW2⟩ : ∃ W2, W2 = w2.alloc (.cells #[.int .u8 0, .int .u8 0, .int .u8 1, .int .u8 0] 24) := ⟨_, rfl⟩
  have k2 : Keeps W1 W2 := by rw [hW2]; exact Keeps.step hb2 (keeps_new _ _)
  have Q2 : Aside (Keeps w W2 ∧ Four W2 b1 (.int .u8 127) (.int .u8 0) (.int .u8 0) (.int .u8 1) ∧ Four W2 w2.heap.size (.int .u8 0) (.int .u8 0) (.int .u8 1) (.int .u8 0)) := ⟨Q1.out.1.step k2, Q1.out.2.below k2, by rw [hW2]; exact four_new _ _ _ _ _ _⟩
  have C3 := P3 W2 (HL.out W2 Q2.out.1).2
  rw [← hW2]
  clear hW2 hb2 k2 Q1
  generalize w2.heap.size = b2 at Q2 ⊢
  refine C3.mono ?_; rintro e w3 ⟨bb, rfl, hF, hb3⟩
  clear C3 P3
  have k3 : Keeps W2 (w3.alloc (.cells #[.int .u8 0, .int .u8 0, .int .u8 0, .int .u8 0] 24)) := Keeps.step hb3 (keeps_new _ _)
  obtain ⟨c0, c1, c2, c3⟩ := Q2.out.2.1.below k3
  obtain ⟨d0, d1, d2, d3⟩ := Q2.out.2.2.below k3
  have F3 : Aside (Keeps w (w3.alloc (.cells #[.int .u8 0, .int .u8 0, .int .u8 0, .int .u8 0] 24)) ∧ FaultAt (w3.alloc (.cells #[.int .u8 0, .int .u8 0, .int .u8 0, .int .u8 0] 24)) (.iface 56 (.pointer (some ⟨bb, 0, none⟩))) 16 6 .nilIface) := ⟨Q2.out.1.step k3, hF.out.below (keeps_new _ _) (Nat.le_refl _)⟩
  have E := has_any [16] _ 16 _ (F3.out.2.chain .nil)
  rw [show tells [16] 16 = true by decide] at E
  have A3 := at_here (HL.out _ F3.out.1).1 F3.out.2
  have EQ := qeq.run_same
  unfold qeq.same at EQ
  clear Q2 hF hb3 k3
  go_wp2_with (first | (go_at_call 15; refine E.mono ?_; rintro e w' ⟨rfl, rfl⟩) | (go_at_call 9; refine A3.mono ?_; rintro e w4 ⟨rfl, hb4⟩))
  go_ret
  exact ⟨rfl, (F3.out.1.step hb4).out⟩
end Go.Proofs.YtahlkhaehlemcaaGreatDoor.qparse
