/- The characters that numbers stand for, rising, each once: a row of the call's own. -/
import Derived.Test.YthkpkohgefikeaaGood
set_option linter.unusedSimpArgs false
set_option linter.unusedVariables false
namespace Go.Proofs.Ythkpkohgefikeaa.puny
open Go.RowKit Go.Proofs.Ythkpkohgefikeaa.build Go.Sort

def isPlain (c : Int) : Bool := decide (c < 128)
def codedOf (xs : List Int) : List Int := xs.filter fun c => !isPlain c
def roundsOf (xs : List Int) : List Int := Lib.compact ((codedOf xs).mergeSort fun x y => decide (x ≤ y))

/-- A row of numbers from the beginning of its block on. -/
def RowAt (g : Nat) (l : List Int) (w : World) : Prop := ∃ cur fr, w.heap[g]? = some (.cells cur 3 fr) ∧ ∀ j, j < l.length → cur[j]? = some (.int .i64 (l.getD j 0))
/-- A block of numbers. -/
def IntAt (g : Nat) (w : World) : Prop := ∃ cur fr, w.heap[g]? = some (.cells cur 3 fr)
theorem heap_putRow {α : Type} [Inhabited α] (enc : α → Value) (w : World) (g off : Nat) (d : Array α) (k : Nat) (h : k ≠ g) : (putRow enc w g off d).heap[k]? = w.heap[k]? := by
  show (w.heap.modify g _)[k]? = _
  rw [Array.getElem?_modify, if_neg (fun e => h e.symm)]
theorem below_putRow {α : Type} [Inhabited α] {B : Nat} {a w : World} (h : Below B a w) {g : Nat} (hg : B ≤ g) (enc : α → Value) (off : Nat) (d : Array α) : Below B a (putRow enc w g off d) :=
  ⟨h.os, h.tape, h.output, by rw [size_putRow]; exact h.size, fun k hk => (heap_putRow enc w g off d k (by omega)).trans (h.block k hk)⟩
theorem below_ahead {B : Nat} {a w : World} (h : Below B a w) (n : Nat) : Below B a (Sort.ahead w n) := ⟨h.os, h.tape, h.output, h.size, h.block⟩
theorem below_grow {B : Nat} {a w : World} (h : Below B a w) (hB : B ≤ w.heap.size) (os : Array Obj) : Below B a (grow w os) :=
  ⟨h.os, h.tape, h.output, by rw [size_grow]; have := h.size; omega, fun k hk => (heap_grow_old w os (by omega)).trans (h.block k hk)⟩
theorem IntAt.put {α : Type} [Inhabited α] {g : Nat} {w : World} (h : IntAt g w) (enc : α → Value) (b off : Nat) (d : Array α) : IntAt g (putRow enc w b off d) := by
  obtain ⟨cur, fr, h⟩ := h
  by_cases e : g = b
  · subst e
    refine ⟨putCells enc off d cur, fr, ?_⟩
    show (w.heap.modify g _)[g]? = _
    rw [Array.getElem?_modify, if_pos rfl, h]
    rfl
  · exact ⟨cur, fr, (heap_putRow enc w b off d g e).trans h⟩
theorem IntAt.grow {g : Nat} {w : World} (h : IntAt g w) (os : Array Obj) : IntAt g (grow w os) := by
  obtain ⟨cur, fr, h⟩ := h
  exact ⟨cur, fr, (heap_grow_old w os (Array.getElem?_eq_some_iff.1 h).1).trans h⟩
theorem IntAt.lt {g : Nat} {w : World} (h : IntAt g w) : g < w.heap.size := by
  obtain ⟨cur, fr, h⟩ := h
  exact (Array.getElem?_eq_some_iff.1 h).1
theorem rowAt_of {g : Nat} {w : World} {l r : List Int} (h : IntAt g w) (hH : Holds (Value.int .i64) w g 0 (l ++ r).toArray) : RowAt g l w := by
  obtain ⟨cur, fr, h⟩ := h
  refine ⟨cur, fr, h, fun j hj => ?_⟩
  have hz := (hH j (by simp; omega)).1
  rw [Nat.zero_add] at hz
  have hc : w.cell? ⟨g, j, none⟩ = cur[j]? := by simp [World.cell?, h]
  rw [← hc, hz]
  rw [getElem!_pos _ j (by simp; omega)]
  simp [List.getElem_append, hj, List.getD_eq_getElem?_getD]

theorem plain_run (x : Int) (W : World) : FnGives Try.prog 21 #[] #[.int .i64 x] (.bool (isPlain x)) W := by
  show Calls Try.prog 21 #[.int .i64 x] W _
  unfold isPlain
  go_enter Try.func21, Try.ntmps21
  go_wp2
  go_ret
  exact ⟨rfl, 0, rfl⟩

theorem clone_any (b off n cap : Nat) (xs : List Int) (w : World) (hn : xs.length = n) (h0 : 0 < n) (hm : n ≤ 1000000) (hc : ∀ j, j < n → w.cell? ⟨b, off + j, none⟩ = some (.int .i64 (xs.getD j 0))) :
    Calls Try.prog 20 #[.slice (some ⟨b, off, none⟩) n cap] w fun e w' => ∃ g c, e = .returned (.slice (some ⟨g, 0, none⟩) n c) ∧ Aside (n ≤ c ∧ w.heap.size ≤ g ∧ IntAt g w' ∧ Holds (Value.int .i64) w' g 0 xs.toArray ∧ Below w.heap.size w w') := by
  refine (Try.slices_Clone_int b off n cap xs w (by omega) (by omega) (fun j hj => hc j (by omega))).mono ?_
  rintro e w' ⟨v', rfl, hown, -, hb⟩
  rcases hown.2 with ⟨-, hz⟩ | ⟨g, c, cur, rfl, hB, hg, hnc, hmx, hs, ht⟩
  · omega
  · refine ⟨g, c, rfl, hnc, hB, ⟨cur, _, hg⟩, fun j hj => ?_, hb⟩
    have hj : j < n := by simpa [hn] using hj
    have hcell := hown.cellAt j (by omega)
    rw [Nat.zero_add]
    refine ⟨?_, by simp [World.frozen?, hg]⟩
    rw [hcell]
    rw [getElem!_pos _ j (by simpa [hn] using hj)]
    simp [List.getElem?_take, hj, hn]

/-- The block that is being put in order, its first so many places. -/
def Mine (g : Nat) (l : List Int) (w w' : World) : Prop := w.heap.size ≤ g ∧ IntAt g w' ∧ Holds (Value.int .i64) w' g 0 l.toArray ∧ Below w.heap.size w w'
theorem Mine.cut {g : Nat} {l r : List Int} {w w' : World} (h : Mine g (l ++ r) w w') : Mine g l w w' := by
  refine ⟨h.1, h.2.1, fun j hj => ?_, h.2.2.2⟩
  have hj' : j < l.length := by simpa using hj
  have := h.2.2.1 j (by simp; omega)
  rw [getElem!_pos _ j (by simp; omega)] at this
  rw [getElem!_pos _ j hj]
  simpa [List.getElem_append, hj'] using this
theorem Mine.put {g : Nat} {l l' : List Int} {w w' : World} (h : Mine g l w w') (hs : l'.length = l.length) (n : Nat) : Mine g l' w (putRow (Value.int .i64) (Sort.ahead w' n) g 0 l'.toArray) :=
  ⟨h.1, IntAt.put (w := Sort.ahead w' n) h.2.1 _ _ _ _, holds_putRow _ (Sort.ahead w' n) g 0 l.toArray l'.toArray h.2.2.1 (by simpa using hs), below_putRow (below_ahead h.2.2.2 n) h.1 _ _ _⟩
theorem Mine.grow {g : Nat} {l : List Int} {w w' : World} (h : Mine g l w w') (os : Array Obj) : Mine g l w (grow w' os) :=
  ⟨h.1, h.2.1.grow os, holds_grow _ w' os g 0 _ h.2.1.lt h.2.2.1, below_grow h.2.2.2 h.2.2.2.size os⟩

theorem delete_any (g c : Nat) (xs : List Int) (w w1 : World) (h : Mine g xs w w1) (hm : xs.length ≤ 1000000) (hc : xs.length ≤ c) :
    Calls Try.prog 19 #[.slice (some ⟨g, 0, none⟩) xs.length c, .func (.func 21) #[] #[]] w1 fun e w' => e = .returned (.slice (some ⟨g, 0, none⟩) (codedOf xs).length c) ∧ Aside (Mine g (codedOf xs) w w') := by
  have D := Try.slices_DeleteFunc (Value.int .i64) (fun _ => rfl) isPlain 21 #[] (enters_of Try.func21 (by kernel_rfl) rfl) (0 : Int) Try.zeroValue3 g 0 c xs.toArray w1
    (fun W x _ => plain_run x W) (fun n os dk x _ => plain_run x _) h.2.2.1 (by simp; omega) (by simpa using hc)
  refine D.mono ?_
  rintro e w' ⟨rfl, q, rfl⟩
  refine ⟨rfl, ?_⟩
  refine Mine.cut (r := List.replicate (xs.length - (codedOf xs).length) 0) (Mine.put h ?_ q)
  have : (codedOf xs).length ≤ xs.length := List.length_filter_le _ _
  simp; omega
theorem sort_any (g c : Nat) (xs : List Int) (w w1 : World) (h : Mine g xs w w1) (hm : xs.length ≤ 1000000) :
    Calls Try.prog 22 #[.slice (some ⟨g, 0, none⟩) xs.length c] w1 fun e w' => e = .returned (.tuple #[]) ∧ Aside (Mine g (xs.mergeSort fun x y => decide (x ≤ y)) w w') := by
  refine (Try.slices_Sort_int g 0 c xs w1 h.2.2.1 h.2.1.lt (by omega)).mono ?_
  rintro e w' ⟨rfl, n, os, rfl⟩
  exact ⟨rfl, (Mine.put h (List.length_mergeSort _) n).grow os⟩
theorem compact_le (xs : List Int) : (Lib.compact xs).length ≤ xs.length := by
  unfold Lib.compact Lib.compactUpTo
  rw [List.length_map]
  exact Nat.le_trans (List.length_filter_le _ _) (by simp)
theorem compact_any (g c : Nat) (xs : List Int) (w w1 : World) (h : Mine g xs w w1) (hm : xs.length ≤ 1000000) (hc : xs.length ≤ c) :
    Calls Try.prog 23 #[.slice (some ⟨g, 0, none⟩) xs.length c] w1 fun e w' => e = .returned (.slice (some ⟨g, 0, none⟩) (Lib.compact xs).length c) ∧ Aside (Mine g (Lib.compact xs) w w') := by
  refine (Try.slices_Compact_int g 0 c xs w1 h.2.2.1 (by omega) hc).mono ?_
  rintro e w' ⟨rfl, q, rfl⟩
  refine ⟨rfl, Mine.cut (r := List.replicate (xs.length - (Lib.compact xs).length) 0) (Mine.put h ?_ q)⟩
  have := compact_le xs
  simp; omega

set_option maxHeartbeats 2000000 in
theorem rounds_any (b off n cap : Nat) (xs : List Int) (w : World) (hn : xs.length = n) (h0 : 0 < n) (hm : n ≤ 1000000) (hc : ∀ j, j < n → w.cell? ⟨b, off + j, none⟩ = some (.int .i64 (xs.getD j 0))) :
    Calls Try.prog 11 #[.slice (some ⟨b, off, none⟩) n cap] w fun e w' => ∃ g c, e = .returned (.slice (some ⟨g, 0, none⟩) (roundsOf xs).length c) ∧ Aside (w.heap.size ≤ g ∧ RowAt g (roundsOf xs) w' ∧ Below w.heap.size w w') := by
  have C := clone_any b off n cap xs w hn h0 hm hc
  have D : ∀ g c w1, n ≤ c → Mine g xs w w1 → Calls Try.prog 19 #[.slice (some ⟨g, 0, none⟩) n c, .func (.func 21) #[] #[]] w1 fun e w' => e = .returned (.slice (some ⟨g, 0, none⟩) (codedOf xs).length c) ∧ Aside (Mine g (codedOf xs) w w') := by
    intro g c w1 h1 h2
    have := delete_any g c xs w w1 h2 (by omega) (by omega)
    rwa [hn] at this
  have hk : (codedOf xs).length ≤ n := by rw [← hn]; exact List.length_filter_le _ _
  have S := fun g c w1 (h : Mine g (codedOf xs) w w1) => sort_any g c (codedOf xs) w w1 h (by omega)
  have K : ∀ g c w1, n ≤ c → Mine g ((codedOf xs).mergeSort fun x y => decide (x ≤ y)) w w1 → Calls Try.prog 23 #[.slice (some ⟨g, 0, none⟩) (codedOf xs).length c] w1 fun e w' => e = .returned (.slice (some ⟨g, 0, none⟩) (roundsOf xs).length c) ∧ Aside (Mine g (roundsOf xs) w w') := by
    intro g c w1 h1 h2
    have := compact_any g c _ w w1 h2 (by rw [List.length_mergeSort]; omega) (by rw [List.length_mergeSort]; omega)
    rwa [List.length_mergeSort] at this
  clear hn hc
  go_enter Try.func11, Try.ntmps11
  go_wp2_with fail
  refine C.mono ?_; rintro e w1 ⟨g, c, rfl, hC⟩
  go_wp2_with fail
  refine (D g c w1 hC.out.1 ⟨hC.out.2.1, hC.out.2.2.1, hC.out.2.2.2.1, hC.out.2.2.2.2⟩).mono ?_; rintro e w2 ⟨rfl, hD⟩
  go_wp2_with fail
  refine (S g c w2 hD.out).mono ?_; rintro e w3 ⟨rfl, hS⟩
  go_wp2_with fail
  refine (K g c w3 hC.out.1 hS.out).mono ?_; rintro e w4 ⟨rfl, hK⟩
  go_wp2_with fail
  go_ret
  exact ⟨g, c, rfl, hK.out.1, rowAt_of (r := []) hK.out.2.1 (by rw [List.append_nil]; exact hK.out.2.2.1), hK.out.2.2.2⟩
end Go.Proofs.Ythkpkohgefikeaa.puny
