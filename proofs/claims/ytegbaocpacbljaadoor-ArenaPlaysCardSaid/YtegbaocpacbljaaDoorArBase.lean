/- Words for what a call may turn that lay before: frames over sets of blocks; rows of numbers of the call's own. -/
import Derived.Test.YtegbaocpacbljaaDoorProg
import Derived.WalkKit
import Derived.Below
import Derived.Lib.Hide
import Derived.Laws.AppendOwn
import Derived.Laws.OwnMore
import Derived.Deep.AppendLies
import Derived.Outline
import Derived.Deep.Draws
namespace Go.Proofs.YtegbaocpacbljaaDoor.arena
open Go.RowKit

theorem ltc {w : World} {a : Addr} {v : Value} (h : w.cell? a = some v) : a.block < w.heap.size := World.block_lt_of_cell? w a h

/-- Nothing that lay in w has turned but blocks of F. -/
structure Mv (F : Nat → Prop) (w w' : World) : Prop where
  os : w'.os = w.os
  tape : w'.tape = w.tape
  output : w'.output = w.output
  size : w.heap.size ≤ w'.heap.size
  block : ∀ k, k < w.heap.size → ¬ F k → w'.heap[k]? = w.heap[k]?
theorem Mv.refl (F : Nat → Prop) (w : World) : Mv F w w := ⟨rfl, rfl, rfl, Nat.le_refl _, fun _ _ _ => rfl⟩
theorem Mv.trans {F G : Nat → Prop} {a b c : World} (h : Mv F a b) (k : Mv G b c) (hG : ∀ x, G x → F x ∨ a.heap.size ≤ x) : Mv F a c :=
  ⟨k.os.trans h.os, k.tape.trans h.tape, k.output.trans h.output, Nat.le_trans h.size k.size, fun i hi hF =>
    (k.block i (Nat.lt_of_lt_of_le hi h.size) (fun hg => (hG i hg).elim hF (fun h' => absurd hi (by omega)))).trans (h.block i hi hF)⟩
theorem Mv.of_below {w w' : World} (h : Below w.heap.size w w') (F : Nat → Prop) : Mv F w w' := ⟨h.os, h.tape, h.output, h.size, fun k hk _ => h.block k hk⟩
theorem Mv.below {F : Nat → Prop} {B : Nat} {w w' : World} (h : Mv F w w') (hB : ∀ k, F k → B ≤ k) (hs : B ≤ w.heap.size) : Below B w w' :=
  ⟨h.os, h.tape, h.output, h.size, fun k hk => h.block k (by omega) (fun hf => by have := hB k hf; omega)⟩
theorem Mv.of_grown {w w' : World} {row : Option Nat} (h : w.grownBy w' row) {F : Nat → Prop} (hF : ∀ k, row = some k → F k ∨ w.heap.size ≤ k) : Mv F w w' :=
  ⟨h.os, h.tape, h.output, h.size, fun k hk hn => h.block k hk (fun e => (hF k e.symm).elim hn (fun h' => absurd hk (by omega)))⟩
theorem Mv.of_set (w : World) (p : Addr) (u : Value) {F : Nat → Prop} (hF : F p.block ∨ w.heap.size ≤ p.block) : Mv F w (w.setCell p u) :=
  ⟨rfl, rfl, rfl, by simp [World.setCell], fun k hk hn => Below.heap_setCell w p u k (fun e => by subst e; exact hF.elim hn (fun h' => absurd hk (by omega)))⟩
theorem Mv.of_alloc (w : World) (o : Obj) (F : Nat → Prop) : Mv F w (w.alloc o) := ⟨rfl, rfl, rfl, by simp, fun k hk _ => Below.heap_alloc w o k hk⟩
theorem Mv.drew {F : Nat → Prop} {a w : World} (h : Mv F a w) : Mv F a w.drew := ⟨h.os, h.tape, h.output, h.size, h.block⟩
theorem Mv.drewN {F : Nat → Prop} {a w : World} (h : Mv F a w) (n : Nat) : Mv F a (w.drewN n) := ⟨h.os, h.tape, h.output, h.size, h.block⟩
theorem Mv.mono {F G : Nat → Prop} {w w' : World} (h : Mv F w w') (hG : ∀ k, F k → G k) : Mv G w w' := ⟨h.os, h.tape, h.output, h.size, fun k hk hn => h.block k hk (fun hf => hn (hG k hf))⟩
theorem Mv.cell {F : Nat → Prop} {w w' : World} (h : Mv F w w') {p : Addr} {v : Value} (hc : w.cell? p = some v) (hF : ¬ F p.block) : w'.cell? p = some v :=
  (World.cell?_of_block (h.block p.block (ltc hc) hF)).trans hc
theorem Mv.frozen {F : Nat → Prop} {w w' : World} (h : Mv F w w') {p : Addr} {v : Value} (hc : w.cell? p = some v) (hF : ¬ F p.block) : w'.frozen? p = w.frozen? p :=
  World.frozen?_of_block (h.block p.block (ltc hc) hF)

/-- A row of the call's own hangs on its block alone. -/
theorem own_of_block {w w' : World} {B : Nat} {e : TypeId} {k : Nat} {v : Value} {n : Nat} {xs : List Value} (h : w.ownsRow B e k v n xs) (hb : ∀ g, v.ownBlock = some g → w'.heap[g]? = w.heap[g]?) : w'.ownsRow B e k v n xs := by
  refine ⟨h.1, ?_⟩
  rcases h.2 with hn | ⟨g, cap, cur, rfl, h1, h2, rest⟩
  · exact .inl hn
  · exact .inr ⟨g, cap, cur, rfl, h1, (hb g rfl).trans h2, rest⟩
theorem own_mv {w w' : World} {B : Nat} {e : TypeId} {k : Nat} {v : Value} {n : Nat} {xs : List Value} {F : Nat → Prop} (h : w.ownsRow B e k v n xs) (hm : Mv F w w') (hF : ∀ g, v.ownBlock = some g → ¬ F g) : w'.ownsRow B e k v n xs :=
  own_of_block h fun g hg => hm.block g (h.lt g hg).2 (hF g hg)
theorem own_base {w : World} {B C : Nat} {e : TypeId} {k : Nat} {v : Value} {n : Nat} {xs : List Value} (h : w.ownsRow B e k v n xs) (hC : ∀ g, v.ownBlock = some g → C ≤ g) : w.ownsRow C e k v n xs := by
  refine ⟨h.1, ?_⟩
  rcases h.2 with hn | ⟨g, cap, cur, rfl, h1, rest⟩
  · exact .inl hn
  · exact .inr ⟨g, cap, cur, rfl, hC g rfl, rest⟩
/-- What an owned row looks like. -/
theorem own_form {w : World} {B n k : Nat} {e : TypeId} {v : Value} {xs : List Value} (h : w.ownsRow B e k v n xs) :
    (v = .slice none 0 0 ∧ n = 0 ∧ xs = []) ∨ ∃ g cap, v = .slice (some ⟨g, 0, none⟩) n cap ∧ n ≤ cap ∧ cap ≤ 9223372036854775807 ∧ B ≤ g ∧ g < w.heap.size ∧ (∀ j, j < n * k → w.cell? ⟨g, j, none⟩ = xs[j]?) ∧ ∀ j, w.frozen? ⟨g, j, none⟩ = false := by
  have h' := h
  rcases h'.2 with ⟨rfl, rfl⟩ | ⟨g, cap, cur, rfl, hB, hg, hn, hm, hs, ht⟩
  · exact .inl ⟨rfl, rfl, List.length_eq_zero_iff.1 (by simpa using h.1)⟩
  · exact .inr ⟨g, cap, rfl, hn, by unfold maxLen at hm; omega, hB, (h.lt g rfl).2, fun j hj => h.cellAt j hj, fun j => h.frozenAt j⟩

theorem form_of {w : World} {B n k : Nat} {e : TypeId} {v : Value} {xs : List Value} (h : w.ownsRow B e k v n xs) : ∃ a c, v = .slice a n c ∧ n ≤ c ∧ c ≤ 9223372036854775807 := by
  rcases own_form h with ⟨rfl, rfl, -⟩ | ⟨g, cap, rfl, h1, h2, -⟩
  · exact ⟨_, _, rfl, Nat.le_refl _, by omega⟩
  · exact ⟨_, _, rfl, h1, h2⟩
/-- Numbers' cells. -/
def nums (l : List Nat) : List Value := l.map fun (j : Nat) => Value.int .i64 (j : Int)
theorem nums_length (l : List Nat) : (nums l).length = l.length := List.length_map ..
theorem nums_append (a b : List Nat) : nums (a ++ b) = nums a ++ nums b := List.map_append ..
theorem nums_at (l : List Nat) (j : Nat) (h : j < l.length) : (nums l)[j]? = some (.int .i64 ((l.getD j 0 : Nat) : Int)) := by
  simp [nums, h, List.getD_eq_getElem?_getD]

/-- The numbers beneath one. -/
def kidsOf (n : Nat) (U : Nat → Int) (i : Nat) : List Nat := (List.range n).filter fun j => decide (0 < j) && (U j == (i : Int))
theorem kidsOf_zero (U : Nat → Int) (i : Nat) : kidsOf 0 U i = [] := rfl
theorem kidsOf_congr {n : Nat} {U U' : Nat → Int} (h : ∀ j, j < n → U j = U' j) (i : Nat) : kidsOf n U i = kidsOf n U' i := by
  unfold kidsOf
  refine List.filter_congr fun j hj => ?_
  rw [h j (List.mem_range.1 hj)]
theorem kidsOf_succ (n : Nat) (U : Nat → Int) (i : Nat) : kidsOf (n + 1) U i = kidsOf n U i ++ if 0 < n ∧ U n = (i : Int) then [n] else [] := by
  unfold kidsOf
  rw [List.range_succ, List.filter_append]
  congr 1
  by_cases h : 0 < n ∧ U n = (i : Int)
  · rw [if_pos h]; simp [h.1, h.2]
  · rw [if_neg h]
    simp only [not_and] at h
    by_cases h0 : 0 < n
    · simp [h0, h h0]
    · simp [h0]
theorem kidsOf_length (n : Nat) (U : Nat → Int) (i : Nat) : (kidsOf n U i).length ≤ n := by
  have := List.length_filter_le (fun j => decide (0 < j) && (U j == (i : Int))) (List.range n)
  unfold kidsOf
  simpa using this
theorem kidsOf_mem {n : Nat} {U : Nat → Int} {i j : Nat} (h : j ∈ kidsOf n U i) : 0 < j ∧ j < n ∧ U j = (i : Int) := by
  unfold kidsOf at h
  rw [List.mem_filter] at h
  obtain ⟨h1, h2⟩ := h
  simp at h1 h2
  exact ⟨h2.1, h1, h2.2⟩
theorem mem_kidsOf {n : Nat} {U : Nat → Int} {i j : Nat} (h0 : 0 < j) (h1 : j < n) (h2 : U j = (i : Int)) : j ∈ kidsOf n U i := by
  unfold kidsOf
  rw [List.mem_filter]
  exact ⟨List.mem_range.2 h1, by simp [h0, h2]⟩
end Go.Proofs.YtegbaocpacbljaaDoor.arena
