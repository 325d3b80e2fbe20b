/- quad.Number: an address's number. -/
import Derived.Test.YtahlkhaehlemcaaDoorQdSpeaks
import Derived.Deep.LoopGhost
import Derived.Laws.BitsAllLaws
set_option linter.unusedSimpArgs false
set_option linter.unusedVariables false
namespace Go.Proofs.YtahlkhaehlemcaaDoor.quadNumbers
open Go.RowKit Go.Proofs.YtahlkhaehlemcaaDoor.errs Go.Proofs.YtahlkhaehlemcaaDoor.qparse Go.Proofs.YtahlkhaehlemcaaDoor.qlaid

theorem or_low (x y : Int) (h0 : 0 ≤ x) (h1 : x < 16777216) (h2 : 0 ≤ y) (h3 : y ≤ 255) : bits .or .u32 (x * 256) y = x * 256 + y := by
  obtain ⟨X, rfl⟩ := Int.eq_ofNat_of_zero_le h0
  obtain ⟨Y, rfl⟩ := Int.eq_ofNat_of_zero_le h2
  have e : X <<< 8 + Y = X <<< 8 ||| Y := Nat.shiftLeft_add_eq_or_of_lt (by omega) X
  rw [Nat.shiftLeft_eq] at e
  have := u32_or_nat (X * 256) Y (by omega) (by omega)
  rw [show X * 256 ||| Y = X * 256 + Y from e.symm] at this
  rw [show ((X : Int) * 256) = ((X * 256 : Nat) : Int) by omega, this]
  omega

theorem at0 (a b c d : Int) (w : World) : (Instr.index 25 (.agg #[.int .u8 a, .int .u8 b, .int .u8 c, .int .u8 d]) (.int .i64 0)).run Tryd.prog w = .ok (.int .u8 a) w := by kernel_rfl
theorem at1 (a b c d : Int) (w : World) : (Instr.index 25 (.agg #[.int .u8 a, .int .u8 b, .int .u8 c, .int .u8 d]) (.int .i64 1)).run Tryd.prog w = .ok (.int .u8 b) w := by kernel_rfl
theorem at2 (a b c d : Int) (w : World) : (Instr.index 25 (.agg #[.int .u8 a, .int .u8 b, .int .u8 c, .int .u8 d]) (.int .i64 2)).run Tryd.prog w = .ok (.int .u8 c) w := by kernel_rfl
theorem at3 (a b c d : Int) (w : World) : (Instr.index 25 (.agg #[.int .u8 a, .int .u8 b, .int .u8 c, .int .u8 d]) (.int .i64 3)).run Tryd.prog w = .ok (.int .u8 d) w := by kernel_rfl

def upTo (a b c d : Int) (i : Nat) : Int := if i = 0 then 0 else if i = 1 then a else if i = 2 then a * 256 + b else if i = 3 then (a * 256 + b) * 256 + c else ((a * 256 + b) * 256 + c) * 256 + d

set_option maxRecDepth 100000 in
set_option maxHeartbeats 4000000 in
theorem number_any (a b c d : Int) (w : World) (ha : 0 ≤ a ∧ a ≤ 255) (hb : 0 ≤ b ∧ b ≤ 255) (hc : 0 ≤ c ∧ c ≤ 255) (hd : 0 ≤ d ∧ d ≤ 255) :
    Calls Tryd.prog 6 #[.agg #[.int .u8 a, .int .u8 b, .int .u8 c, .int .u8 d]] w fun e w' => e = .returned (.int .u32 (((a * 256 + b) * 256 + c) * 256 + d)) ∧ Below w.heap.size w w' := by
  obtain ⟨a0, a1⟩ := ha
  obtain ⟨b0, b1⟩ := hb
  obtain ⟨c0, c1⟩ := hc
  obtain ⟨d0, d1⟩ := hd
  have kn : Aside (Keeps w (w.alloc (.cells #[.int .u8 a, .int .u8 b, .int .u8 c, .int .u8 d] 25))) := keeps_new _ _
  have i0 := at0 a b c d
  have i1 := at1 a b c d
  have i2 := at2 a b c d
  have i3 := at3 a b c d
  go_enter Tryd.func6, Tryd.ntmps6
  go_wp2_with fail
  go_loopg [3, 7] 4 (fun g v0 v1 wr => ∃ (i : Nat) (ii x : Int), v0 = .int .u32 x ∧ v1 = .int .i64 ii ∧ ii = i ∧ g + i = 4 ∧ Aside (x = upTo a b c d i ∧ Keeps w wr))
  case atStart => exact ⟨0, 0, 0, rfl, rfl, rfl, by omega, rfl, kn.out⟩
  case round =>
    obtain ⟨i, ii, x, rfl, rfl, hii, hg, hA⟩ := hrel
    rcases (show i = 0 ∨ i = 1 ∨ i = 2 ∨ i = 3 ∨ i = 4 by omega) with rfl | rfl | rfl | rfl | rfl
    · obtain rfl : ii = 0 := hii
      have x0 : 0 ≤ x ∧ x < 16777216 := by have := hA.out.1; simp [upTo] at this; omega
      have hor := or_low x a x0.1 x0.2 a0 a1
      have x1 := x0.1
      have x2 := x0.2
      have N : Aside (x * 256 + a = upTo a b c d 1 ∧ Keeps w wr) := ⟨by have := hA.out.1; simp [upTo] at this ⊢; omega, hA.out.2⟩
      clear x0 hA
      go_wp2_with fail
      go_roundg 3
      case measure => omega
      case rel => exact ⟨1, _, _, rfl, rfl, rfl, by omega, N.out⟩
    · obtain rfl : ii = 1 := hii
      have x0 : 0 ≤ x ∧ x < 16777216 := by have := hA.out.1; simp [upTo] at this; omega
      have hor := or_low x b x0.1 x0.2 b0 b1
      have x1 := x0.1
      have x2 := x0.2
      have N : Aside (x * 256 + b = upTo a b c d 2 ∧ Keeps w wr) := ⟨by have := hA.out.1; simp [upTo] at this ⊢; omega, hA.out.2⟩
      clear x0 hA
      go_wp2_with fail
      go_roundg 2
      case measure => omega
      case rel => exact ⟨2, _, _, rfl, rfl, rfl, by omega, N.out⟩
    · obtain rfl : ii = 2 := hii
      have x0 : 0 ≤ x ∧ x < 16777216 := by have := hA.out.1; simp [upTo] at this; omega
      have hor := or_low x c x0.1 x0.2 c0 c1
      have x1 := x0.1
      have x2 := x0.2
      have N : Aside (x * 256 + c = upTo a b c d 3 ∧ Keeps w wr) := ⟨by have := hA.out.1; simp [upTo] at this ⊢; omega, hA.out.2⟩
      clear x0 hA
      go_wp2_with fail
      go_roundg 1
      case measure => omega
      case rel => exact ⟨3, _, _, rfl, rfl, rfl, by omega, N.out⟩
    · obtain rfl : ii = 3 := hii
      have x0 : 0 ≤ x ∧ x < 16777216 := by have := hA.out.1; simp [upTo] at this; omega
      have hor := or_low x d x0.1 x0.2 d0 d1
      have x1 := x0.1
      have x2 := x0.2
      have N : Aside (x * 256 + d = upTo a b c d 4 ∧ Keeps w wr) := ⟨by have := hA.out.1; simp [upTo] at this ⊢; omega, hA.out.2⟩
      clear x0 hA
      go_wp2_with fail
      go_roundg 0
      case measure => omega
      case rel => exact ⟨4, _, _, rfl, rfl, rfl, by omega, N.out⟩
    · obtain rfl : ii = 4 := hii
      go_wp2_with fail
      go_ret
      exact ⟨by rw [hA.out.1]; rfl, hA.out.2⟩
end Go.Proofs.YtahlkhaehlemcaaDoor.quadNumbers
