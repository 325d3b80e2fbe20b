/- The callees of the law on halves: utf.Half, utf.Whole, utf.Halves, and the document's own Half and Whole: each is a plain function of numbers, the world stays. -/
import Derived.Test.YtoilalffhmjhdaaGreatDoorProg
import Derived.WalkKit
import Derived.BigQuiet
import Derived.Deep.QuietTactic
import Derived.Laws.BitsLemmas
import Derived.Outline
import Derived.Lib.Hide
namespace Go.Proofs.YtoilalffhmjhdaaGreatDoor.half
open Go.RowKit

theorem ret_int {k : IntKind} {a b : Int} (h : a = b) : Ending.returned (.int k a) = .returned (.int k b) := by rw [h]

def kindOf (n : Int) : Int := if n < 55296 then 0 else if n < 56320 then 1 else if n < 57344 then 2 else 0

theorem kind0 {n : Int} (h : n < 55296 ∨ 57344 ≤ n) : kindOf n = 0 := by unfold kindOf; split; rfl; split; omega; split; omega; rfl
theorem kind1 {n : Int} (h : 55296 ≤ n ∧ n < 56320) : kindOf n = 1 := by unfold kindOf; split; omega; split; rfl; omega
theorem kind2 {n : Int} (h : 56320 ≤ n ∧ n < 57344) : kindOf n = 2 := by unfold kindOf; split; omega; split; omega; split; rfl; omega
theorem kinds (n : Int) : (n < 55296 ∨ 57344 ≤ n) ∨ (55296 ≤ n ∧ n < 56320) ∨ (56320 ≤ n ∧ n < 57344) := by omega

theorem rhalf_any (n : Int) (w : World) :
    Calls Tryz.prog 89 #[.int .i64 n] w fun e w' => e = .returned (.int .i64 (kindOf n)) ∧ w = w' := by
  rcases kinds n with (h | h) | h | h
  · rw [kind0 (Or.inl h)]
    go_enter Tryz.func89, Tryz.ntmps89
    go_wp2
    all_goals (go_ret; exact ⟨rfl, rfl⟩)
  · rw [kind0 (Or.inr h)]
    go_enter Tryz.func89, Tryz.ntmps89
    go_wp2
    all_goals (go_ret; exact ⟨rfl, rfl⟩)
  · rw [kind1 h]
    obtain ⟨h1, h2⟩ := h
    go_enter Tryz.func89, Tryz.ntmps89
    go_wp2
    all_goals (go_ret; exact ⟨rfl, rfl⟩)
  · rw [kind2 h]
    obtain ⟨h1, h2⟩ := h
    go_enter Tryz.func89, Tryz.ntmps89
    go_wp2
    all_goals (go_ret; exact ⟨rfl, rfl⟩)

theorem ret_ib {a b : Int} (h : a = b) (c : Bool) : Ending.returned (.tuple #[.int .i64 a, .bool c]) = .returned (.tuple #[.int .i64 b, .bool c]) := by rw [h]
theorem ret_iib {a b c d : Int} (h : a = b) (k : c = d) (t : Bool) : Ending.returned (.tuple #[.int .i64 a, .int .i64 c, .bool t]) = .returned (.tuple #[.int .i64 b, .int .i64 d, .bool t]) := by rw [h, k]

def isWhole (n l : Int) : Prop := (55296 ≤ n ∧ n < 56320) ∧ (56320 ≤ l ∧ l < 57344)
instance (n l : Int) : Decidable (isWhole n l) := by unfold isWhole; infer_instance
def wholeOf (n l : Int) : Int := 65536 + 1024 * (n - 55296) + (l - 56320)

theorem not_whole {n l : Int} (h : ¬ isWhole n l) : (n < 55296 ∨ 57344 ≤ n ∨ (56320 ≤ n ∧ n < 57344)) ∨ ((55296 ≤ n ∧ n < 56320) ∧ (l < 55296 ∨ 57344 ≤ l ∨ (55296 ≤ l ∧ l < 56320))) := by
  unfold isWhole at h; omega
theorem pow62 : (2 : Int) ^ 62 = 4611686018427387904 := by decide
theorem and1023 (x : Int) (h0 : 0 ≤ x) (h1 : x < 4611686018427387904) : bits .and .i64 x 1023 = x % 1024 :=
  bits_mask .i64 62 (by decide) (fun n a b => by rw [pow62] at b; rw [IntKind.wrap_i64]; omega) 10 (by decide) x h0 (by rw [pow62]; omega)
def highOf (n : Int) : Int := 55296 + (n - 65536) / 1024
def lowOf (n : Int) : Int := 56320 + (n - 65536) % 1024
theorem isWhole_halves (n : Int) (h1 : 65536 ≤ n) (h2 : n < 1114112) : isWhole (highOf n) (lowOf n) := by unfold isWhole highOf lowOf; omega
theorem wholeOf_halves (n : Int) (_h1 : 65536 ≤ n) (_h2 : n < 1114112) : wholeOf (highOf n) (lowOf n) = n := by unfold wholeOf highOf lowOf; omega
end Go.Proofs.YtoilalffhmjhdaaGreatDoor.half
