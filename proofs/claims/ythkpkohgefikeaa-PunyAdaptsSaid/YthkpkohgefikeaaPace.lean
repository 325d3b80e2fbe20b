/- What goes on from one number of an encoding to the next one: the bound of a digit, and the step behind a number. -/
import Derived.Test.YthkpkohgefikeaaAdapt
import Derived.Below
import Derived.StillTailTactics
set_option linter.unusedSimpArgs false
set_option linter.unusedVariables false
namespace Go.Proofs.Ythkpkohgefikeaa.puny
open Go.RowKit

/-- What a number's last digit is below. -/
def bound (k bias : Int) : Int := if k - bias < 1 then 1 else if 26 < k - bias then 26 else k - bias
theorem bound_range (k bias : Int) : 1 ≤ bound k bias ∧ bound k bias ≤ 26 := by
  unfold bound
  repeat' split
  all_goals omega

theorem bound_any (q : Nat) (k bias : Int) (w : World) (hq : w.cell? ⟨q, 0, none⟩ = some (.int .i64 bias)) (h0 : 0 ≤ bias) (h1 : bias ≤ 4398046511104) (h2 : 0 ≤ k) (h3 : k ≤ 4398046511104000) :
    Calls Try.prog 24 #[.pointer (some ⟨q, 0, none⟩), .int .i64 k] w fun e w' => e = .returned (.int .i64 (bound k bias)) ∧ w = w' := by
  unfold bound
  rcases (show k - bias < 1 ∨ 26 < k - bias ∨ (1 ≤ k - bias ∧ k - bias ≤ 26) by omega) with h | h | ⟨h, h'⟩
  · rw [if_pos h]
    go_enter Try.func24, Try.ntmps24
    go_wp2
    go_ret
    exact ⟨rfl, rfl⟩
  · rw [if_neg (show ¬ k - bias < 1 by omega), if_pos h]
    go_enter Try.func24, Try.ntmps24
    go_wp2
    go_ret
    exact ⟨rfl, rfl⟩
  · rw [if_neg (show ¬ k - bias < 1 by omega), if_neg (show ¬ 26 < k - bias by omega)]
    go_enter Try.func24, Try.ntmps24
    go_wp2
    go_ret
    exact ⟨rfl, rfl⟩

/-- A pace: its bias, and whether a number has been there. -/
def PaceAt (q : Nat) (bias : Int) (later : Bool) (w : World) : Prop := w.heap[q]? = some (.cells #[.int .i64 bias, .bool later] 40 (0, 0))
theorem PaceAt.cell0 {q : Nat} {bias : Int} {later : Bool} {w : World} (h : PaceAt q bias later w) : w.cell? ⟨q, 0, none⟩ = some (.int .i64 bias) := by
  unfold PaceAt at h
  simp [World.cell?, h]
theorem PaceAt.cell1 {q : Nat} {bias : Int} {later : Bool} {w : World} (h : PaceAt q bias later w) : w.cell? ⟨q, 1, none⟩ = some (.bool later) := by
  unfold PaceAt at h
  simp [World.cell?, h]
theorem PaceAt.frozen {q : Nat} {bias : Int} {later : Bool} {w : World} (h : PaceAt q bias later w) (j : Nat) : w.frozen? ⟨q, j, none⟩ = false := by
  unfold PaceAt at h
  simp [World.frozen?, h]
theorem PaceAt.stepped {q : Nat} {bias : Int} {later : Bool} {w : World} (h : PaceAt q bias later w) (b : Int) : PaceAt q b true ((w.setCell ⟨q, 0, none⟩ (.int .i64 b)).setCell ⟨q, 1, none⟩ (.bool true)) := by
  unfold PaceAt at *
  simp [World.setCell, Array.getElem?_modify, h]

theorem step_any (q : Nat) (number count bias : Int) (later : Bool) (w : World) (hp : PaceAt q bias later w) (hd : number ≤ 1099511627776) :
    Calls Try.prog 13 #[.pointer (some ⟨q, 0, none⟩), .int .i64 number, .int .i64 count] w fun e w' => e = .returned (.tuple #[]) ∧ (w.setCell ⟨q, 0, none⟩ (.int .i64 (adapt number count !later))).setCell ⟨q, 1, none⟩ (.bool true) = w' := by
  have c0 := hp.cell0
  have c1 := hp.cell1
  have z0 := hp.frozen 0
  have z1 := hp.frozen 1
  clear hp
  have A := adapt_any number count (!later) w hd
  generalize adapt number count (!later) = r at *
  go_enter Try.func13, Try.ntmps13
  go_wp2_with fail
  refine A.mono ?_; rintro e w' ⟨rfl, rfl⟩
  go_wp2_with fail
  go_end0
  exact ⟨rfl, rfl⟩
end Go.Proofs.Ythkpkohgefikeaa.puny
