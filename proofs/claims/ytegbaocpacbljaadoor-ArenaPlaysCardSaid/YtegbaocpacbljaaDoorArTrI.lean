/- A tree of arena in memory: its two cells, its row of nodes, each node's own row of numbers beneath it; no two of them in one block. -/
import Derived.Test.YtegbaocpacbljaaDoorArBase
namespace Go.Proofs.YtegbaocpacbljaaDoor.arenaI
open Go.RowKit Go.Proofs.YtegbaocpacbljaaDoor.arena

/-- The nodes' cells, one behind the other. -/
def flat (n : Nat) (V : Nat → Int) (U : Nat → Int) (K : Nat → Value) : List Value := (List.range n).flatMap fun i => [.int .i64 (V i), .int .i64 (U i), K i]
theorem flat_succ (n : Nat) (V : Nat → Int) (U : Nat → Int) (K : Nat → Value) : flat (n + 1) V U K = flat n V U K ++ [.int .i64 (V n), .int .i64 (U n), K n] := by
  simp [flat, List.range_succ]
theorem flat_length (n : Nat) (V : Nat → Int) (U : Nat → Int) (K : Nat → Value) : (flat n V U K).length = n * 3 := by
  induction n with
  | zero => rfl
  | succ n ih => rw [flat_succ, List.length_append, ih]; simp; omega
theorem flat_congr {n : Nat} {V V' : Nat → Int} {U U' : Nat → Int} {K K' : Nat → Value} (h : ∀ i, i < n → V i = V' i ∧ U i = U' i ∧ K i = K' i) : flat n V U K = flat n V' U' K' := by
  induction n with
  | zero => rfl
  | succ n ih =>
    rw [flat_succ, flat_succ, ih fun i hi => h i (by omega)]
    obtain ⟨h1, h2, h3⟩ := h n (by omega)
    rw [h1, h2, h3]
theorem flat_at {n : Nat} (V : Nat → Int) (U : Nat → Int) (K : Nat → Value) : ∀ {i j : Nat}, i < n → j < 3 → (flat n V U K)[i * 3 + j]? = [.int .i64 (V i), .int .i64 (U i), K i][j]? := by
  induction n with
  | zero => intro i j h; omega
  | succ n ih =>
    intro i j hi hj
    rw [flat_succ]
    by_cases e : i = n
    · subst e
      rw [List.getElem?_append_right (by rw [flat_length]; omega), flat_length, show i * 3 + j - i * 3 = j by omega]
    · rw [List.getElem?_append_left (by rw [flat_length]; omega)]
      exact ih (by omega) hj
theorem flat_one (n : Nat) (V : Nat → Int) (U : Nat → Int) (K : Nat → Value) (hK : ∀ i, i < n → (K i).oneCell' = true) : ∀ u ∈ flat n V U K, u.oneCell' = true := by
  intro u hu
  obtain ⟨i, hi, hu⟩ := List.mem_flatMap.1 hu
  have hi := List.mem_range.1 hi
  simp at hu
  rcases hu with rfl | rfl | rfl
  · rfl
  · rfl
  · exact hK i hi

/-- A tree lies in w, in blocks from B on. -/
structure Tr (w : World) (B tb : Nat) (most : Int) (nv : Value) (n : Nat) (V : Nat → Int) (U : Nat → Int) (K : Nat → Value) (C : Nat → List Nat) : Prop where
  base : B ≤ tb
  head : w.heap[tb]? = some (.cells #[.int .i64 most, nv] 51 (0, 0))
  own : w.ownsRow B 55 3 nv n (flat n V U K)
  kid : ∀ i, i < n → w.ownsRow B 3 1 (K i) (C i).length (nums (C i))
  a1 : nv.ownBlock ≠ some tb
  a2 : ∀ i, i < n → (K i).ownBlock ≠ some tb
  a3 : ∀ i g, i < n → (K i).ownBlock = some g → nv.ownBlock ≠ some g
  a4 : ∀ i j g, i < n → j < n → i ≠ j → (K i).ownBlock = some g → (K j).ownBlock ≠ some g

/-- The tree's own blocks. -/
def Foot (tb : Nat) (nv : Value) (n : Nat) (K : Nat → Value) (k : Nat) : Prop := k = tb ∨ nv.ownBlock = some k ∨ ∃ i, i < n ∧ (K i).ownBlock = some k

variable {w : World} {B tb : Nat} {most : Int} {nv : Value} {n : Nat} {V : Nat → Int} {U : Nat → Int} {K : Nat → Value} {C : Nat → List Nat}
theorem Tr.lt (h : Tr w B tb most nv n V U K C) : tb < w.heap.size := (Array.getElem?_eq_some_iff.1 h.head).1
theorem Tr.foot_lt (h : Tr w B tb most nv n V U K C) {k : Nat} (hk : Foot tb nv n K k) : B ≤ k ∧ k < w.heap.size := by
  rcases hk with rfl | hk | ⟨i, hi, hk⟩
  · exact ⟨h.base, h.lt⟩
  · exact h.own.lt k hk
  · exact (h.kid i hi).lt k hk
theorem Tr.mv {F : Nat → Prop} {w' : World} (h : Tr w B tb most nv n V U K C) (hm : Mv F w w') (hF : ∀ k, Foot tb nv n K k → ¬ F k) : Tr w' B tb most nv n V U K C where
  base := h.base
  head := (hm.block tb h.lt (hF tb (.inl rfl))).trans h.head
  own := own_mv h.own hm fun g hg => hF g (.inr (.inl hg))
  kid := fun i hi => own_mv (h.kid i hi) hm fun g hg => hF g (.inr (.inr ⟨i, hi, hg⟩))
  a1 := h.a1
  a2 := h.a2
  a3 := h.a3
  a4 := h.a4
theorem Tr.drew (h : Tr w B tb most nv n V U K C) : Tr w.drew B tb most nv n V U K C := h.mv ((Mv.refl (fun _ => False) w).drew) fun _ _ => id
theorem Tr.below {w' : World} (h : Tr w B tb most nv n V U K C) (hb : Below w.heap.size w w') : Tr w' B tb most nv n V U K C := h.mv (Mv.of_below hb fun _ => False) fun _ _ => id
theorem Tr.c0 (h : Tr w B tb most nv n V U K C) : w.cell? ⟨tb, 0, none⟩ = some (.int .i64 most) := by simp [World.cell?, h.head]
theorem Tr.c1 (h : Tr w B tb most nv n V U K C) : w.cell? ⟨tb, 1, none⟩ = some nv := by simp [World.cell?, h.head]
theorem Tr.f1 (h : Tr w B tb most nv n V U K C) (j : Nat) : w.frozen? ⟨tb, j, none⟩ = false := by simp [World.frozen?, h.head]
theorem Tr.form (h : Tr w B tb most nv n V U K C) : ∃ a cap, nv = .slice a n cap := by
  rcases own_form h.own with ⟨rfl, rfl, -⟩ | ⟨g, cap, rfl, -⟩
  · exact ⟨_, _, rfl⟩
  · exact ⟨_, _, rfl⟩
/-- The row of nodes, where there are any. -/
theorem Tr.row (h : Tr w B tb most nv n V U K C) {i : Nat} (hi : i < n) : ∃ g cap, nv = .slice (some ⟨g, 0, none⟩) n cap ∧ n ≤ cap ∧ cap ≤ 9223372036854775807 ∧ B ≤ g ∧ g < w.heap.size ∧ (∀ i, i < n → w.cell? ⟨g, i * 3, none⟩ = some (.int .i64 (V i)) ∧ w.cell? ⟨g, i * 3 + 1, none⟩ = some (.int .i64 (U i)) ∧ w.cell? ⟨g, i * 3 + 2, none⟩ = some (K i)) ∧ ∀ j, w.frozen? ⟨g, j, none⟩ = false := by
  rcases own_form h.own with ⟨-, rfl, -⟩ | ⟨g, cap, rfl, h1, h2, h3, h4, h5, h6⟩
  · omega
  · refine ⟨g, cap, rfl, h1, h2, h3, h4, fun i hi => ⟨?_, ?_, ?_⟩, h6⟩
    · have := flat_at V U K hi (show 0 < 3 by omega)
      rw [Nat.add_zero] at this
      rw [h5 _ (by omega), this]; rfl
    · rw [h5 _ (by omega), flat_at V U K hi (by omega)]; rfl
    · rw [h5 _ (by omega), flat_at V U K hi (by omega)]; rfl
theorem Tr.kform (h : Tr w B tb most nv n V U K C) {i : Nat} (hi : i < n) : ∃ a cap, K i = .slice a (C i).length cap := by
  rcases own_form (h.kid i hi) with ⟨e1, e2, -⟩ | ⟨g, cap, e, -⟩
  · rw [e2]; exact ⟨_, _, e1⟩
  · exact ⟨_, _, e⟩
/-- Only what is told of the numbers that there are counts. -/
theorem Tr.congr {V' : Nat → Int} {U' : Nat → Int} {K' : Nat → Value} {C' : Nat → List Nat} (h : Tr w B tb most nv n V U K C) (e : ∀ i, i < n → V i = V' i ∧ U i = U' i ∧ K i = K' i ∧ C i = C' i) : Tr w B tb most nv n V' U' K' C' where
  base := h.base
  head := h.head
  own := by rw [← flat_congr (V := V) (U := U) (K := K) fun i hi => ⟨(e i hi).1, (e i hi).2.1, (e i hi).2.2.1⟩]; exact h.own
  kid := fun i hi => by rw [← (e i hi).2.2.1, ← (e i hi).2.2.2]; exact h.kid i hi
  a1 := h.a1
  a2 := fun i hi => by rw [← (e i hi).2.2.1]; exact h.a2 i hi
  a3 := fun i g hi => by rw [← (e i hi).2.2.1]; exact h.a3 i g hi
  a4 := fun i j g hi hj => by rw [← (e i hi).2.2.1, ← (e j hj).2.2.1]; exact h.a4 i j g hi hj
end Go.Proofs.YtegbaocpacbljaaDoor.arenaI
