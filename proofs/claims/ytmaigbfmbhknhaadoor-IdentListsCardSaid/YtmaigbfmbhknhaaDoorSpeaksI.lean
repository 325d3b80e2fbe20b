/- The examples of the document, as the statements of layer 4 ask them first. -/
import Derived.Test.YtmaigbfmbhknhaaDoorApp2
import Derived.Deep.QuietTactic
import Derived.BigQuiet
namespace Go.Proofs.YtmaigbfmbhknhaaDoor.ident
open Go.RowKit Go.Proofs.YtmaigbfmbhknhaaDoor.errs

def letters : ByteArray := ⟨#[65, 66, 67, 68, 69, 70, 71, 72, 73, 74, 75, 76, 77, 78, 79, 80, 81, 82, 83, 84, 85, 86, 87, 88, 89, 90, 97, 98, 99, 100, 101, 102, 103, 104, 105, 106, 107, 108, 109, 110, 111, 112, 113, 114, 115, 116, 117, 118, 119, 120, 121, 122]⟩
def inPackage : ByteArray := ⟨#[65, 66, 67, 68, 69, 70, 71, 72, 73, 74, 75, 76, 77, 78, 79, 80, 81, 82, 83, 84, 85, 86, 87, 88, 89, 90, 97, 98, 99, 100, 101, 102, 103, 104, 105, 106, 107, 108, 109, 110, 111, 112, 113, 114, 115, 116, 117, 118, 119, 120, 121, 122, 48, 49, 50, 51, 52, 53, 54, 55, 56, 57, 95, 46]⟩
def com : ByteArray := ⟨#[99, 111, 109]⟩
def sample : ByteArray := ⟨#[65, 66, 67, 68, 69, 49, 50, 51, 52, 53, 46, 99, 111, 109, 46, 120]⟩

theorem pack0 (B : Nat) (w : World) (hB : w.cell? ⟨B, 0, none⟩ = some (.string ⟨#[99, 111, 109]⟩)) :
    Calls Tryd.prog 29 #[.int .i64 0, .pointer (some ⟨B, 0, none⟩)] w fun e w' => e = .returned (.bool true) ∧ w = w' := by
  have C := among_any 99 letters w
  rw [show inB letters 99 = true by kernel_rfl] at C
  go_enter Tryd.func29, Tryd.ntmps29
  go_wp2_with (go_at_call 24; refine C.mono ?_; rintro e w' ⟨rfl, rfl⟩)
  go_ret
  exact ⟨rfl, rfl⟩
theorem pack1 (B : Nat) (w : World) (hB : w.cell? ⟨B, 0, none⟩ = some (.string ⟨#[99, 111, 109]⟩)) :
    Calls Tryd.prog 29 #[.int .i64 1, .pointer (some ⟨B, 0, none⟩)] w fun e w' => e = .returned (.bool true) ∧ w = w' := by
  have C := among_any 111 inPackage w
  rw [show inB inPackage 111 = true by kernel_rfl] at C
  go_enter Tryd.func29, Tryd.ntmps29
  go_wp2_with (go_at_call 24; refine C.mono ?_; rintro e w' ⟨rfl, rfl⟩)
  go_ret
  exact ⟨rfl, rfl⟩
theorem pack2 (B : Nat) (w : World) (hB : w.cell? ⟨B, 0, none⟩ = some (.string ⟨#[99, 111, 109]⟩)) :
    Calls Tryd.prog 29 #[.int .i64 2, .pointer (some ⟨B, 0, none⟩)] w fun e w' => e = .returned (.bool true) ∧ w = w' := by
  have C := among_any 109 inPackage w
  rw [show inB inPackage 109 = true by kernel_rfl] at C
  go_enter Tryd.func29, Tryd.ntmps29
  go_wp2_with (go_at_call 24; refine C.mono ?_; rintro e w' ⟨rfl, rfl⟩)
  go_ret
  exact ⟨rfl, rfl⟩

theorem package_com (w : World) : Calls Tryd.prog 13 #[.string ⟨#[99, 111, 109]⟩] w fun e w' => Failed w e w' 10 3 id := by
  have b0 : Below w.heap.size w (w.alloc (.cells #[.string ⟨#[99, 111, 109]⟩] 9)) := (Below.refl _ w).alloc (Nat.le_refl _) _
  have c1 : (w.alloc (.cells #[.string ⟨#[99, 111, 109]⟩] 9)).cell? ⟨w.heap.size, 0, none⟩ = some (.string ⟨#[99, 111, 109]⟩) := by rw [World.cell?_alloc_at _ _ _ _ rfl]; rfl
  have R := read_any ⟨#[99, 111, 109]⟩ 223 false 29 w.heap.size (fun _ => true) (w.alloc (.cells #[.string ⟨#[99, 111, 109]⟩] 9)) (enters_of Tryd.func29 (by kernel_rfl) rfl)
    (fun k hk W hK => by
      have hc := (hK.out.cell (p := ⟨w.heap.size, 0, none⟩) (lt_of_cell c1)).trans c1
      have hk : k < 3 := hk
      rcases (show k = 0 ∨ k = 1 ∨ k = 2 by omega) with rfl | rfl | rfl
      · exact pack0 _ W hc
      · exact pack1 _ W hc
      · exact pack2 _ W hc) (by decide)
  rw [show verdict 223 false (fun _ => true) (ByteArray.size ⟨#[99, 111, 109]⟩) 0 = some (10, 3) by decide] at R
  have R : Calls Tryd.prog 22 #[.string ⟨#[99, 111, 109]⟩, .int .i64 223, .bool false, .func (.func 29) #[] #[.pointer (some ⟨w.heap.size, 0, none⟩)]] (w.alloc (.cells #[.string ⟨#[99, 111, 109]⟩] 9)) fun e w' => ∃ bb, e = .returned (.iface 51 (.pointer (some ⟨bb, 0, none⟩))) ∧ Aside (FaultAt w' (.iface 51 (.pointer (some ⟨bb, 0, none⟩))) 10 3 .nilIface ∧ Below w.heap.size w w') :=
    R.mono fun e w' h => by
      obtain ⟨bb, h1, h2⟩ := Failed.bare e w' h
      exact ⟨bb, h1, h2.out.1, b0.trans (h2.out.2.mono b0.size)⟩
  have C : Calls Tryd.prog 27 #[.string ⟨#[99, 111, 109]⟩, .string ⟨#[46]⟩] (w.alloc (.cells #[.string ⟨#[99, 111, 109]⟩] 9)) fun e w' => e = .returned (.bool false) ∧ (w.alloc (.cells #[.string ⟨#[99, 111, 109]⟩] 9)) = w' := by
    have C := Tryd.strings_Contains_one ⟨#[99, 111, 109]⟩ 46 (w.alloc (.cells #[.string ⟨#[99, 111, 109]⟩] 9))
    rw [show decide (0 ≤ Lib.indexByte (ByteArray.data ⟨#[99, 111, 109]⟩).toList 46) = false by kernel_rfl] at C
    exact C.mono fun e w' h => ⟨h.1, h.2.symm⟩
  clear b0
  go_enter Tryd.func13, Tryd.ntmps13
  go_wp2_with (first | (go_at_call 27; refine C.mono ?_; rintro e w' ⟨rfl, rfl⟩) | (go_at_call 22; refine R.mono ?_; rintro e w' ⟨bb, rfl, hF⟩))
  go_ret
  exact ⟨_, rfl, hF.out.1, hF.out.2⟩

theorem apptext_any (a b : ByteArray) (w : World) (ha : a.size ≤ 100000) (hb : b.size ≤ 100000) :
    Calls Tryd.prog 11 #[.agg #[.string a, .string b]] w fun e w' => e = .returned (.string (a ++ ⟨#[46]⟩ ++ b)) ∧ Below w.heap.size w w' := by
  go_enter Tryd.func11, Tryd.ntmps11
  go_wp2_with fail
  go_ret
  exact ⟨rfl, (Below.refl _ w).alloc (Nat.le_refl _) _⟩

theorem sample_good : appBad sample = none := by kernel_rfl
theorem sample_team : sample.extract 0 10 = ⟨#[65, 66, 67, 68, 69, 49, 50, 51, 52, 53]⟩ := by kernel_rfl
theorem sample_bundle : sample.extract 11 sample.size = ⟨#[99, 111, 109, 46, 120]⟩ := by kernel_rfl

set_option maxHeartbeats 2000000 in
theorem speaks_any (w : World) (hL : Laid w) :
    Calls Tryd.prog 5 #[] w fun e w' => e = .returned (.bool true) ∧ Keeps w w' := by
  have A := app_any sample w (by decide)
  rw [sample_good] at A
  have A : Calls Tryd.prog 10 #[.string ⟨#[65, 66, 67, 68, 69, 49, 50, 51, 52, 53, 46, 99, 111, 109, 46, 120]⟩] w fun e w' => e = .returned (.tuple #[.agg #[.string ⟨#[65, 66, 67, 68, 69, 49, 50, 51, 52, 53]⟩, .string ⟨#[99, 111, 109, 46, 120]⟩], .nilIface]) ∧ Keeps w w' := by
    have A' := A
    unfold AppOut at A'
    simp only [sample_team, sample_bundle] at A'
    exact A'
  have P : ∀ w1, Keeps w w1 → Calls Tryd.prog 13 #[.string ⟨#[99, 111, 109]⟩] w1 fun e w' => ∃ bb, e = .returned (.iface 51 (.pointer (some ⟨bb, 0, none⟩))) ∧ Aside (FaultAt w' (.iface 51 (.pointer (some ⟨bb, 0, none⟩))) 10 3 .nilIface ∧ Keeps w1 w') :=
    fun w1 _ => (package_com w1).mono Failed.bare
  have H : Aside (Laid w) := hL
  clear hL
  go_enter Tryd.func5, Tryd.ntmps5
  go_wp2_with fail
  refine A.mono ?_; rintro e w1 ⟨rfl, k1⟩
  go_wp2_with fail
  have e0 : (w1.alloc (.cells #[.string ⟨#[65, 66, 67, 68, 69, 49, 50, 51, 52, 53]⟩, .string ⟨#[99, 111, 109, 46, 120]⟩] 29)).cell? ⟨w1.heap.size, 0, none⟩ = some (.string ⟨#[65, 66, 67, 68, 69, 49, 50, 51, 52, 53]⟩) := by rw [World.cell?_alloc_at _ _ _ _ rfl]; rfl
  have e1 : (w1.alloc (.cells #[.string ⟨#[65, 66, 67, 68, 69, 49, 50, 51, 52, 53]⟩, .string ⟨#[99, 111, 109, 46, 120]⟩] 29)).cell? ⟨w1.heap.size, 1, none⟩ = some (.string ⟨#[99, 111, 109, 46, 120]⟩) := by rw [World.cell?_alloc_at _ _ _ _ rfl]; rfl
  have k2 : Keeps w (w1.alloc (.cells #[.string ⟨#[65, 66, 67, 68, 69, 49, 50, 51, 52, 53]⟩, .string ⟨#[99, 111, 109, 46, 120]⟩] 29)) := k1.step ((Below.refl _ _).alloc (Nat.le_refl _) _)
  generalize (w1.alloc (.cells #[.string ⟨#[65, 66, 67, 68, 69, 49, 50, 51, 52, 53]⟩, .string ⟨#[99, 111, 109, 46, 120]⟩] 29)) = W at e0 e1 k2 ⊢
  generalize w1.heap.size = B at e0 e1 ⊢
  refine (P W k2).mono ?_; rintro e w2 ⟨bb, rfl, hF⟩
  have h0 := (hF.out.2.cell (p := ⟨B, 0, none⟩) (lt_of_cell e0)).trans e0
  have h1 := (hF.out.2.cell (p := ⟨B, 1, none⟩) (lt_of_cell e1)).trans e1
  have k3 : Aside (Keeps w w2) := k2.step hF.out.2
  have E := has_any [10] _ 10 w2 (hF.out.1.chain .nil)
  rw [show tells [10] 10 = true by decide] at E
  have G := at_fault _ .nilIface 10 3 w2 (H.out.below k3.out (Nat.le_refl _)) hF.out.1
  clear k2 e0 e1 A P
  go_wp2_with (first | (go_at_call 12; refine E.mono ?_; rintro e w' ⟨rfl, rfl⟩) | (go_at_call 14; refine G.mono ?_; rintro e w' ⟨rfl, hb3⟩))
  go_ret
  exact ⟨rfl, k3.out.step hb3⟩
end Go.Proofs.YtmaigbfmbhknhaaDoor.ident
