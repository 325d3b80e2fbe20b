/- The document's answer for layer 1: Right, Put and guess. -/
import Derived.Test.YtoilalffhmjhdaaGreatDoorHalf
import Derived.Test.YtoilalffhmjhdaaGreatDoorUtfMath
import Derived.Test.YtoilalffhmjhdaaGreatDoorValid
namespace Go.Proofs.YtoilalffhmjhdaaGreatDoor.ref
open Go.RowKit Go.Proofs.YtoilalffhmjhdaaGreatDoor.errs Go.Proofs.YtoilalffhmjhdaaGreatDoor.utf Go.Proofs.YtoilalffhmjhdaaGreatDoor.umath Go.Proofs.YtoilalffhmjhdaaGreatDoor.half

theorem right_yes (n : Int) (w : World) (h : right n = true) :
    Calls Tryz.prog 78 #[.int .i64 n] w fun e w' => e = .returned (.bool true) ∧ w = w' := by
  obtain ⟨h0, h1, h2⟩ := (right_iff n).1 h
  clear h
  rcases (show n < 55296 ∨ 57344 ≤ n by omega) with h3 | h3
  all_goals clear h2
  all_goals go_enter Tryz.func78, Tryz.ntmps78
  all_goals go_wp2
  all_goals go_ret
  all_goals exact ⟨rfl, rfl⟩
theorem right_no (n : Int) (w : World) (h : right n = false) :
    Calls Tryz.prog 78 #[.int .i64 n] w fun e w' => e = .returned (.bool false) ∧ w = w' := by
  have hn : ¬ (0 ≤ n ∧ n < 1114112 ∧ ¬ (55296 ≤ n ∧ n < 57344)) := by rw [← right_iff, h]; decide
  clear h
  rcases (show n < 0 ∨ 1114112 ≤ n ∨ (55296 ≤ n ∧ n < 56320) ∨ (56320 ≤ n ∧ n < 57344) by omega) with h3 | h3 | ⟨h3, h4⟩ | ⟨h3, h4⟩
  all_goals clear hn
  all_goals go_enter Tryz.func78, Tryz.ntmps78
  all_goals go_wp2
  all_goals go_ret
  all_goals exact ⟨rfl, rfl⟩

/-- A list of numbers as cells. -/
def cells (l : List Int) : Array Value := (l.map (Value.int .u8)).toArray
theorem cells_congr {l l' : List Int} (h : l = l') : cells l = cells l' := by rw [h]

theorem put_any (n : Int) (w : World) (h : right n = true) :
    Calls Tryz.prog 79 #[.int .i64 n] w fun e w' => e = .returned (.slice (some ⟨w.heap.size, 0, none⟩) (put n).length (put n).length) ∧ w.alloc (.cells (cells (put n)) 5) = w' := by
  obtain ⟨h0, h1, h2⟩ := (right_iff n).1 h
  clear h
  by_cases c1 : n < 128
  · have e : put n = [n] := by simp [put, c1]
    rw [e]
    go_enter Tryz.func79, Tryz.ntmps79
    go_wp2
    go_ret
    exact ⟨rfl, rfl⟩
  by_cases c2 : n < 2048
  · have e : put n = [192 + n / 64, 128 + n % 64] := by simp [put, c1, c2]
    rw [e]
    go_enter Tryz.func79, Tryz.ntmps79
    go_wp2
    go_ret
    exact ⟨rfl, rfl⟩
  by_cases c3 : n < 65536
  · have e : put n = [224 + n / 4096, 128 + n / 64 % 64, 128 + n % 64] := by simp [put, c1, c2, c3]
    rw [e]
    go_enter Tryz.func79, Tryz.ntmps79
    go_wp2
    go_ret
    exact ⟨rfl, rfl⟩
  · have e : put n = [240 + n / 262144, 128 + n / 4096 % 64, 128 + n / 64 % 64, 128 + n % 64] := by simp [put, c1, c2, c3]
    rw [e]
    go_enter Tryz.func79, Tryz.ntmps79
    go_wp2
    go_ret
    exact ⟨rfl, rfl⟩

theorem guess1 (n cap b off i : Nat) (b0 : Int) (w : World) (hi : i + 1 ≤ n) (g0 : 0 ≤ b0) (l0 : b0 ≤ 255)
    (c0 : w.cell? ⟨b, off + i, none⟩ = some (.int .u8 b0)) :
    Calls Tryz.prog 77 #[.slice (some ⟨b, off, none⟩) n cap, .int .i64 i, .int .i64 1] w fun e w' => e = .returned (.int .i64 b0) ∧ w = w' := by
  have x0 : (0 : Int) ≤ (i : Int) := by omega
  have x1 : (i : Int) < (n : Int) := by omega
  go_enter Tryz.func77, Tryz.ntmps77
  go_wp2
  refine wp_loop_rounds 1 ?_
  rw [rounds_succ]
  go_wp2
  go_ret
  exact ⟨rfl, rfl⟩
theorem guess2 (n cap b off i : Nat) (b0 b1 : Int) (w : World) (hi : i + 2 ≤ n) (hn : n ≤ 9223372036854775807) (g0 : 0 ≤ b0) (l0 : b0 ≤ 255) (g1 : 0 ≤ b1) (l1 : b1 ≤ 255)
    (c0 : w.cell? ⟨b, off + i, none⟩ = some (.int .u8 b0)) (c1 : w.cell? ⟨b, off + (i + 1), none⟩ = some (.int .u8 b1)) :
    Calls Tryz.prog 77 #[.slice (some ⟨b, off, none⟩) n cap, .int .i64 i, .int .i64 2] w fun e w' => e = .returned (.int .i64 (64 * (b0 - 192) + b1 - 128)) ∧ w = w' := by
  have x0 : (0 : Int) ≤ (i : Int) := by omega
  have x1 : (i : Int) < (n : Int) := by omega
  have x2 : (i : Int) + 1 < (n : Int) := by omega
  go_enter Tryz.func77, Tryz.ntmps77
  go_wp2
  refine wp_loop_rounds 2 ?_
  rw [rounds_succ]
  go_wp2
  rw [rounds_succ]
  go_wp2
  go_ret
  exact ⟨rfl, rfl⟩
theorem guess3 (n cap b off i : Nat) (b0 b1 b2 : Int) (w : World) (hi : i + 3 ≤ n) (hn : n ≤ 9223372036854775807) (g0 : 0 ≤ b0) (l0 : b0 ≤ 255) (g1 : 0 ≤ b1) (l1 : b1 ≤ 255) (g2 : 0 ≤ b2) (l2 : b2 ≤ 255)
    (c0 : w.cell? ⟨b, off + i, none⟩ = some (.int .u8 b0)) (c1 : w.cell? ⟨b, off + (i + 1), none⟩ = some (.int .u8 b1)) (c2 : w.cell? ⟨b, off + (i + 2), none⟩ = some (.int .u8 b2)) :
    Calls Tryz.prog 77 #[.slice (some ⟨b, off, none⟩) n cap, .int .i64 i, .int .i64 3] w fun e w' => e = .returned (.int .i64 (64 * (64 * (b0 - 224) + b1 - 128) + b2 - 128)) ∧ w = w' := by
  have x0 : (0 : Int) ≤ (i : Int) := by omega
  have x1 : (i : Int) < (n : Int) := by omega
  have x2 : (i : Int) + 1 < (n : Int) := by omega
  have x3 : (i : Int) + 2 < (n : Int) := by omega
  go_enter Tryz.func77, Tryz.ntmps77
  go_wp2
  refine wp_loop_rounds 3 ?_
  rw [rounds_succ]
  go_wp2
  rw [rounds_succ]
  go_wp2
  rw [rounds_succ]
  go_wp2
  go_ret
  exact ⟨rfl, rfl⟩
theorem guess4 (n cap b off i : Nat) (b0 b1 b2 b3 : Int) (w : World) (hi : i + 4 ≤ n) (hn : n ≤ 9223372036854775807) (g0 : 0 ≤ b0) (l0 : b0 ≤ 255) (g1 : 0 ≤ b1) (l1 : b1 ≤ 255) (g2 : 0 ≤ b2) (l2 : b2 ≤ 255) (g3 : 0 ≤ b3) (l3 : b3 ≤ 255)
    (c0 : w.cell? ⟨b, off + i, none⟩ = some (.int .u8 b0)) (c1 : w.cell? ⟨b, off + (i + 1), none⟩ = some (.int .u8 b1)) (c2 : w.cell? ⟨b, off + (i + 2), none⟩ = some (.int .u8 b2)) (c3 : w.cell? ⟨b, off + (i + 3), none⟩ = some (.int .u8 b3)) :
    Calls Tryz.prog 77 #[.slice (some ⟨b, off, none⟩) n cap, .int .i64 i, .int .i64 4] w fun e w' => e = .returned (.int .i64 (64 * (64 * (64 * (b0 - 240) + b1 - 128) + b2 - 128) + b3 - 128)) ∧ w = w' := by
  have x0 : (0 : Int) ≤ (i : Int) := by omega
  have x1 : (i : Int) < (n : Int) := by omega
  have x2 : (i : Int) + 1 < (n : Int) := by omega
  have x3 : (i : Int) + 2 < (n : Int) := by omega
  have x4 : (i : Int) + 3 < (n : Int) := by omega
  go_enter Tryz.func77, Tryz.ntmps77
  go_wp2
  refine wp_loop_rounds 4 ?_
  rw [rounds_succ]
  go_wp2
  rw [rounds_succ]
  go_wp2
  rw [rounds_succ]
  go_wp2
  rw [rounds_succ]
  go_wp2
  go_ret
  exact ⟨rfl, rfl⟩
end Go.Proofs.YtoilalffhmjhdaaGreatDoor.ref
