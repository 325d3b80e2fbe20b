/- Addresses held against each other: the model's '==' at the array of four bytes. -/
import Derived.Test.YtahlkhaehlemcaaGreatDoorFails
import Derived.ChangeKeysEq
set_option linter.unusedSimpArgs false
set_option linter.unusedVariables false
namespace Go.Proofs.YtahlkhaehlemcaaGreatDoor.qeq
open Go.RowKit Go.Proofs.YtahlkhaehlemcaaGreatDoor.errs

def same (a0 a1 a2 a3 b0 b1 b2 b3 : Int) : Bool := a0 == b0 && (a1 == b1 && (a2 == b2 && a3 == b3))
theorem run_item (d : Nat) (x y : Int) (w : World) : (Op.equalIn (d + 1) 5 (.int .u8 x) (.int .u8 y)).run Tryz.prog w = .ok (x == y) w := by
  simp [Op.equalIn, underlying, Tryz.underlying5, Result.andThen]
theorem run_four (d : Nat) (a0 a1 a2 a3 b0 b1 b2 b3 : Int) (w : World) :
    (Op.eqItems (d + 1) 5 (Tryz.prog.cellsOf 5) #[.int .u8 a0, .int .u8 a1, .int .u8 a2, .int .u8 a3] #[.int .u8 b0, .int .u8 b1, .int .u8 b2, .int .u8 b3] [0, 1, 2, 3]).run Tryz.prog w = .ok (same a0 a1 a2 a3 b0 b1 b2 b3) w := by
  have hc : Tryz.prog.cellsOf 5 = 1 := by kernel_rfl
  have hp : ∀ (x0 x1 x2 x3 : Int), (∀ w, (part 5 #[.int .u8 x0, .int .u8 x1, .int .u8 x2, .int .u8 x3] 0).run Tryz.prog w = .ok (.int .u8 x0) w) ∧ (∀ w, (part 5 #[.int .u8 x0, .int .u8 x1, .int .u8 x2, .int .u8 x3] 1).run Tryz.prog w = .ok (.int .u8 x1) w) ∧ (∀ w, (part 5 #[.int .u8 x0, .int .u8 x1, .int .u8 x2, .int .u8 x3] 2).run Tryz.prog w = .ok (.int .u8 x2) w) ∧ (∀ w, (part 5 #[.int .u8 x0, .int .u8 x1, .int .u8 x2, .int .u8 x3] 3).run Tryz.prog w = .ok (.int .u8 x3) w) := by
    intro x0 x1 x2 x3
    refine ⟨fun w => ?_, fun w => ?_, fun w => ?_, fun w => ?_⟩ <;> simp [part, isAgg, underlying, Tryz.underlying5, Result.andThen]
  have p0 := fun x0 x1 x2 x3 => (hp x0 x1 x2 x3).1
  have p1 := fun x0 x1 x2 x3 => (hp x0 x1 x2 x3).2.1
  have p2 := fun x0 x1 x2 x3 => (hp x0 x1 x2 x3).2.2.1
  have p3 := fun x0 x1 x2 x3 => (hp x0 x1 x2 x3).2.2.2
  simp only [Op.eqItems, Sem.run_bind, hc, Nat.mul_one, p0, p1, p2, p3, Result.andThen_ok, run_item]
  unfold same
  by_cases h0 : a0 = b0 <;> by_cases h1 : a1 = b1 <;> by_cases h2 : a2 = b2 <;> by_cases h3 : a3 = b3 <;> simp [h0, h1, h2, h3, p0, p1, p2, p3, run_item]
theorem run_same (a0 a1 a2 a3 b0 b1 b2 b3 : Int) (w : World) :
    (Op.equalIn 10000 24 (.agg #[.int .u8 a0, .int .u8 a1, .int .u8 a2, .int .u8 a3]) (.agg #[.int .u8 b0, .int .u8 b1, .int .u8 b2, .int .u8 b3])).run Tryz.prog w = .ok (same a0 a1 a2 a3 b0 b1 b2 b3) w := by
  have hu : Tryz.prog.underlying 24 = some (.array 4 5) := by kernel_rfl
  obtain ⟨i, hi⟩ := info_of_underlying Tryz.underlying5
  rw [show (10000 : Nat) = 9998 + 1 + 1 from rfl, run_equalIn_array w (9998 + 1) _ _ hu hi, show List.range 4 = [0, 1, 2, 3] by decide]
  exact run_four 9998 a0 a1 a2 a3 b0 b1 b2 b3 w
end Go.Proofs.YtahlkhaehlemcaaGreatDoor.qeq
