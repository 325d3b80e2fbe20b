/- The document's tree in memory: its three cells, and its two rows of numbers. -/
import Derived.Test.YtegbaocpacbljaaDoorArClone
import Derived.BigQuiet
import Derived.Deep.QuietTactic
namespace Go.Proofs.YtegbaocpacbljaaDoor.rf
open Go.RowKit Go.Proofs.YtegbaocpacbljaaDoor.arena

/-- A row of numbers' cells. -/
def ints (n : Nat) (V : Nat → Int) : List Value := (List.range n).map fun i => .int .i64 (V i)
theorem ints_length (n : Nat) (V : Nat → Int) : (ints n V).length = n := by simp [ints]
theorem ints_at {n : Nat} (V : Nat → Int) {i : Nat} (h : i < n) : (ints n V)[i]? = some (.int .i64 (V i)) := by simp [ints, h]
theorem ints_succ (n : Nat) (V : Nat → Int) : ints (n + 1) V = ints n V ++ [.int .i64 (V n)] := by simp [ints, List.range_succ]
theorem ints_congr {n : Nat} {V V' : Nat → Int} (h : ∀ i, i < n → V i = V' i) : ints n V = ints n V' := by
  apply List.ext_getElem?
  intro i
  by_cases hi : i < n
  · rw [ints_at V hi, ints_at V' hi, h i hi]
  · rw [List.getElem?_eq_none (by rw [ints_length]; omega), List.getElem?_eq_none (by rw [ints_length]; omega)]

structure Rt (w : World) (B mb : Nat) (most : Int) (vv uv : Value) (n : Nat) (V U : Nat → Int) : Prop where
  base : B ≤ mb
  head : w.heap[mb]? = some (.cells #[vv, uv, .int .i64 most] 29 (0, 0))
  vrow : w.ownsRow B 3 1 vv n (ints n V)
  urow : w.ownsRow B 3 1 uv n (ints n U)
  apart : ∀ g, vv.ownBlock = some g → uv.ownBlock ≠ some g
def Foot (mb : Nat) (vv uv : Value) (k : Nat) : Prop := k = mb ∨ vv.ownBlock = some k ∨ uv.ownBlock = some k

variable {w : World} {B mb : Nat} {most : Int} {vv uv : Value} {n : Nat} {V U : Nat → Int}
theorem Rt.lt (h : Rt w B mb most vv uv n V U) : mb < w.heap.size := (Array.getElem?_eq_some_iff.1 h.head).1
theorem Rt.foot_lt (h : Rt w B mb most vv uv n V U) {k : Nat} (hk : Foot mb vv uv k) : B ≤ k ∧ k < w.heap.size := by
  rcases hk with rfl | hk | hk
  · exact ⟨h.base, h.lt⟩
  · exact h.vrow.lt k hk
  · exact h.urow.lt k hk
theorem Rt.mv {F : Nat → Prop} {w' : World} (h : Rt w B mb most vv uv n V U) (hm : Mv F w w') (hF : ∀ k, Foot mb vv uv k → ¬ F k) : Rt w' B mb most vv uv n V U :=
  ⟨h.base, (hm.block mb h.lt (hF mb (.inl rfl))).trans h.head, own_mv h.vrow hm fun g hg => hF g (.inr (.inl hg)), own_mv h.urow hm fun g hg => hF g (.inr (.inr hg)), h.apart⟩
theorem Rt.below {w' : World} (h : Rt w B mb most vv uv n V U) (hb : Below w.heap.size w w') : Rt w' B mb most vv uv n V U := h.mv (Mv.of_below hb fun _ => False) fun _ _ => id
theorem Rt.c0 (h : Rt w B mb most vv uv n V U) : w.cell? ⟨mb, 0, none⟩ = some vv := by simp [World.cell?, h.head]
theorem Rt.c1 (h : Rt w B mb most vv uv n V U) : w.cell? ⟨mb, 1, none⟩ = some uv := by simp [World.cell?, h.head]
theorem Rt.c2 (h : Rt w B mb most vv uv n V U) : w.cell? ⟨mb, 2, none⟩ = some (.int .i64 most) := by simp [World.cell?, h.head]
theorem Rt.fr (h : Rt w B mb most vv uv n V U) (j : Nat) : w.frozen? ⟨mb, j, none⟩ = false := by simp [World.frozen?, h.head]
theorem row_ne {w : World} {B mb : Nat} {cs : Array Value} {v : Value} {n : Nat} {xs : List Value} (h : w.heap[mb]? = some (.cells cs 29 (0, 0))) (hr : w.ownsRow B 3 1 v n xs) : v.ownBlock ≠ some mb := fun e => by
  rcases hr.2 with ⟨rfl, -⟩ | ⟨g', cap, cur, rfl, h1, h2, rest⟩
  · simp [Value.ownBlock] at e
  · obtain rfl : g' = mb := by simpa [Value.ownBlock] using e
    rw [h] at h2
    simp at h2
theorem Rt.vne (h : Rt w B mb most vv uv n V U) : vv.ownBlock ≠ some mb := row_ne h.head h.vrow
theorem Rt.une (h : Rt w B mb most vv uv n V U) : uv.ownBlock ≠ some mb := row_ne h.head h.urow
/-- The row of what numbers are beneath, where there are any. -/
theorem row_get {w : World} {B : Nat} {v : Value} {n : Nat} {V : Nat → Int} (h : w.ownsRow B 3 1 v n (ints n V)) {i : Nat} (hi : i < n) : ∃ g cap, v = .slice (some ⟨g, 0, none⟩) n cap ∧ w.cell? ⟨g, i, none⟩ = some (.int .i64 (V i)) ∧ w.frozen? ⟨g, i, none⟩ = false := by
  rcases own_form h with ⟨-, rfl, -⟩ | ⟨g, cap, rfl, h1, h2, h3, h4, h5, h6⟩
  · omega
  · exact ⟨g, cap, rfl, by rw [h5 i (by omega), ints_at V hi], h6 i⟩

theorem has_yes (h : Rt w B mb most vv uv n V U) (i : Nat) (hi : i < n) : Calls Tryd.prog 7 #[.pointer (some ⟨mb, 0, none⟩), .int .i64 (i : Int)] w fun e w' => e = .returned (.bool true) ∧ w = w' := by
  have c0 := h.c0
  obtain ⟨a, cap, rfl, -⟩ := form_of h.vrow
  clear h
  have h0 : (0 : Int) ≤ (i : Int) := by omega
  have h1 : (i : Int) < (n : Int) := by omega
  go_enter Tryd.func7, Tryd.ntmps7
  go_wp2
  go_ret
  exact ⟨rfl, rfl⟩
theorem has_no (h : Rt w B mb most vv uv n V U) (x : Int) (hx : x < 0 ∨ (n : Int) ≤ x) : Calls Tryd.prog 7 #[.pointer (some ⟨mb, 0, none⟩), .int .i64 x] w fun e w' => e = .returned (.bool false) ∧ w = w' := by
  have c0 := h.c0
  obtain ⟨a, cap, rfl, -⟩ := form_of h.vrow
  clear h
  by_cases h0 : 0 ≤ x
  · have h1 : (n : Int) ≤ x := by omega
    have h2 : decide (x < (n : Int)) = false := decide_eq_false (by omega)
    clear hx
    go_enter Tryd.func7, Tryd.ntmps7
    go_wp2
    go_ret
    exact ⟨rfl, rfl⟩
  · have h1 : x < 0 := by omega
    clear hx h0
    go_enter Tryd.func7, Tryd.ntmps7
    go_wp2
    go_ret
    exact ⟨rfl, rfl⟩
end Go.Proofs.YtegbaocpacbljaaDoor.rf
