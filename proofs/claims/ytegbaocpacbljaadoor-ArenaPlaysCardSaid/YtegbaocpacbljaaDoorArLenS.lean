/- New, Len and there of a tree. -/
import Derived.Test.YtegbaocpacbljaaDoorArTrS
namespace Go.Proofs.YtegbaocpacbljaaDoor.arenaS
open Go.RowKit Go.Proofs.YtegbaocpacbljaaDoor.arena
variable {w : World} {B tb : Nat} {most : Int} {nv : Value} {n : Nat} {V : Nat → ByteArray} {U : Nat → Int} {K : Nat → Value} {C : Nat → List Nat}

theorem new_any (m : Int) (w : World) :
    Calls Tryd.prog 14 #[.int .i64 m] w fun e w' => e = .returned (.pointer (some ⟨w.heap.size, 0, none⟩)) ∧ w.alloc (.cells #[.int .i64 m, .slice none 0 0] 67) = w' := by
  go_enter Tryd.func14, Tryd.ntmps14
  go_wp2
  go_ret
  exact ⟨rfl, rfl⟩
theorem tr_new (w : World) (m : Int) (V : Nat → ByteArray) (U : Nat → Int) (K : Nat → Value) (C : Nat → List Nat) : Tr (w.alloc (.cells #[.int .i64 m, .slice none 0 0] 67)) w.heap.size w.heap.size m (.slice none 0 0) 0 V U K C where
  base := Nat.le_refl _
  head := heap_alloc_new w _
  own := World.ownsRow_nil _ _ _ _
  kid := fun i hi => by omega
  a1 := by simp [Value.ownBlock]
  a2 := fun i hi => by omega
  a3 := fun i g hi => by omega
  a4 := fun i j g hi => by omega

theorem len_any (h : Tr w B tb most nv n V U K C) : Calls Tryd.prog 31 #[.pointer (some ⟨tb, 0, none⟩)] w fun e w' => e = .returned (.int .i64 n) ∧ w = w' := by
  have c1 := h.c1
  obtain ⟨a, cap, rfl⟩ := h.form
  clear h
  go_enter Tryd.func31, Tryd.ntmps31
  go_wp2
  go_ret
  exact ⟨rfl, rfl⟩
theorem there_yes (h : Tr w B tb most nv n V U K C) (i : Nat) (hi : i < n) : Calls Tryd.prog 32 #[.pointer (some ⟨tb, 0, none⟩), .int .i64 (i : Int)] w fun e w' => e = .returned (.bool true) ∧ w = w' := by
  have c1 := h.c1
  obtain ⟨a, cap, rfl⟩ := h.form
  clear h
  have h0 : (0 : Int) ≤ (i : Int) := by omega
  have h1 : (i : Int) < (n : Int) := by omega
  go_enter Tryd.func32, Tryd.ntmps32
  go_wp2
  go_ret
  exact ⟨rfl, rfl⟩
theorem there_no (h : Tr w B tb most nv n V U K C) (x : Int) (hx : x < 0 ∨ (n : Int) ≤ x) : Calls Tryd.prog 32 #[.pointer (some ⟨tb, 0, none⟩), .int .i64 x] w fun e w' => e = .returned (.bool false) ∧ w = w' := by
  have c1 := h.c1
  obtain ⟨a, cap, rfl⟩ := h.form
  clear h
  by_cases h0 : 0 ≤ x
  · have h1 : (n : Int) ≤ x := by omega
    have h2 : decide (x < (n : Int)) = false := decide_eq_false (by omega)
    clear hx
    go_enter Tryd.func32, Tryd.ntmps32
    go_wp2
    go_ret
    exact ⟨rfl, rfl⟩
  · have h1 : x < 0 := by omega
    clear hx h0
    go_enter Tryd.func32, Tryd.ntmps32
    go_wp2
    go_ret
    exact ⟨rfl, rfl⟩
end Go.Proofs.YtegbaocpacbljaaDoor.arenaS
