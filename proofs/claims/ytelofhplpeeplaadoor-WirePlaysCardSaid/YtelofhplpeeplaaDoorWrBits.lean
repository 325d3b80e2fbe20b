/- The lowest bits of a number. -/
import Derived.Test.YtelofhplpeeplaaDoorRows
import Derived.Laws.BitsLemmas
import Derived.IntWalk
import Derived.Test.YtelofhplpeeplaaDoorCalm
set_option linter.unusedSimpArgs false
set_option linter.unusedVariables false
namespace Go.Proofs.YtelofhplpeeplaaDoor.wire
open Go Go.RowKit
theorem i64_and7 (n : Int) : bits .and .i64 n 7 = n % 8 := by
  have h7 : (BitVec.ofInt 64 7).toNat = 2 ^ 3 - 1 := by decide
  have key : (BitVec.ofInt 64 n &&& BitVec.ofInt 64 7).toNat = (n % ((2 ^ 64 : Nat) : Int)).toNat % 2 ^ 3 := by
    rw [BitVec.toNat_and, BitVec.toNat_ofInt, h7, Nat.and_two_pow_sub_one_eq_mod]
  show IntKind.i64.wrap ((BitVec.ofInt 64 n &&& BitVec.ofInt 64 7).toNat : Nat) = n % 8
  rw [key, IntKind.wrap_i64]
  omega
theorem i64_and255 (n : Int) : bits .and .i64 n 255 = n % 256 := by
  have h7 : (BitVec.ofInt 64 255).toNat = 2 ^ 8 - 1 := by decide
  have key : (BitVec.ofInt 64 n &&& BitVec.ofInt 64 255).toNat = (n % ((2 ^ 64 : Nat) : Int)).toNat % 2 ^ 8 := by
    rw [BitVec.toNat_and, BitVec.toNat_ofInt, h7, Nat.and_two_pow_sub_one_eq_mod]
  show IntKind.i64.wrap ((BitVec.ofInt 64 n &&& BitVec.ofInt 64 255).toNat : Nat) = n % 256
  rw [key, IntKind.wrap_i64]
  omega
theorem u64_and255 (n : Int) : bits .and .u64 n 255 = n % 256 := by
  have h7 : (BitVec.ofInt 64 255).toNat = 2 ^ 8 - 1 := by decide
  have key : (BitVec.ofInt 64 n &&& BitVec.ofInt 64 255).toNat = (n % ((2 ^ 64 : Nat) : Int)).toNat % 2 ^ 8 := by
    rw [BitVec.toNat_and, BitVec.toNat_ofInt, h7, Nat.and_two_pow_sub_one_eq_mod]
  show IntKind.u64.wrap ((BitVec.ofInt 64 n &&& BitVec.ofInt 64 255).toNat : Nat) = n % 256
  rw [key, IntWalk.u64_in _ (by omega)]
  omega
theorem low8 (n : Int) : ∃ d : Nat, bits .and .u64 n 255 = (d : Int) ∧ d ≤ 255 := ⟨(n % 256).toNat, by rw [u64_and255]; omega, by omega⟩
theorem low3 (n : Int) : ∃ d : Nat, bits .and .i64 n 7 = (d : Int) ∧ d ≤ 7 := ⟨(n % 8).toNat, by rw [i64_and7]; omega, by omega⟩
set_option maxRecDepth 100000 in
/-- A request's number, out of its value. -/
theorem first_field (m : Int) (a t u : ByteArray) (p : Bool) (k : Int) (w : World) : (Instr.field 45 (.agg #[.int .u64 m, .string a, .bool p, .int .i64 k, .string t, .string u]) 0).run Tryd.prog w = .ok (.int .u64 m) w := by kernel_rfl
end Go.Proofs.YtelofhplpeeplaaDoor.wire
