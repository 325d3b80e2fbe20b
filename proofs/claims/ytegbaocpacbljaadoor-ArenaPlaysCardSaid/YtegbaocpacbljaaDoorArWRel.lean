/- What holds in a walk of a tree, between its steps: what is left, what has been listed, the marks that the loops have left. -/
import Derived.Test.YtegbaocpacbljaaDoorArBack
import Derived.Test.YtegbaocpacbljaaDoorArWMath
import Derived.Maps.OwnIn
namespace Go.Proofs.YtegbaocpacbljaaDoor.arena
open Go.RowKit Go.Shelf

/-- In the box bx what is left; ov what has been listed; rs the marks. -/
structure Mid (w : World) (bx : Nat) (rs : List Nat) (ov : Value) (os : List Nat) (gl lc : Nat) (l : List Nat) (W : World) : Prop where
  box : Boxed W bx 27 (.slice (some ⟨gl, 0, none⟩) l.length lc)
  left : W.ownsRow w.heap.size 3 1 (.slice (some ⟨gl, 0, none⟩) l.length lc) l.length (nums l)
  list : W.ownsRow w.heap.size 3 1 ov os.length (nums os)
  far : ov.ownBlock ≠ some gl
  out : w.heap.size ≤ bx
  bel : Below w.heap.size w W
  marks : ∀ r ∈ rs, w.heap.size ≤ r ∧ W.heap[r]? = some (.deferred (some []))

variable {w W W1 : World} {bx gl lc : Nat} {rs os l : List Nat} {ov : Value}
theorem own_isCells {B n k : Nat} {e : TypeId} {v : Value} {xs : List Value} (h : W.ownsRow B e k v n xs) {g : Nat} (hg : v.ownBlock = some g) : ∃ cs, W.heap[g]? = some (.cells cs e (0, 0)) := by
  rcases h.2 with ⟨rfl, -⟩ | ⟨g', cap, cur, rfl, h1, h2, rest⟩
  · simp [Value.ownBlock] at hg
  · obtain rfl : g' = g := by simpa [Value.ownBlock] using hg
    exact ⟨cur, h2⟩
theorem Mid.bx_ne (h : Mid w bx rs ov os gl lc l W) : gl ≠ bx ∧ ov.ownBlock ≠ some bx := by
  have key : ∀ {n : Nat} {v : Value} {xs : List Value}, W.ownsRow w.heap.size 3 1 v n xs → v.ownBlock ≠ some bx := fun hr hv => by
    obtain ⟨cs, hc⟩ := own_isCells hr hv
    have := (show W.heap[bx]? = _ from h.box).symm.trans hc
    simp at this
  exact ⟨fun e => key h.left (by rw [e]; rfl), key h.list⟩
theorem Mid.mark_ne (h : Mid w bx rs ov os gl lc l W) {r : Nat} (hr : r ∈ rs) : r ≠ bx ∧ r ≠ gl ∧ ov.ownBlock ≠ some r := by
  have hm := (h.marks r hr).2
  refine ⟨fun e => ?_, fun e => ?_, fun e => ?_⟩
  · subst e
    have := (show W.heap[r]? = _ from h.box).symm.trans hm
    simp at this
  · subst e
    obtain ⟨cs, hc⟩ := own_isCells h.left rfl
    rw [hc] at hm; cases hm
  · obtain ⟨cs, hc⟩ := own_isCells h.list e
    rw [hc] at hm; cases hm
theorem Mid.turn {C : Nat} {row : Option Nat} (h : Mid w bx rs ov os gl lc l W) (hC : ∀ r ∈ rs, r < C) (hw : w.heap.size ≤ C) (hg : W.grownBy W1 row) (hr : ∀ r, row = some r → C ≤ r ∧ ∃ o : Obj, W.heap[r]? = some o ∧ o.isCells = false) : Mid w bx rs ov os gl lc l W1 := by
  have ne : ∀ k cs t, W.heap[k]? = some (.cells cs t (0, 0)) → some k ≠ row := fun k cs t hk e => by
    obtain ⟨-, o, ho, hc⟩ := hr k e.symm
    rw [hk] at ho; cases ho; cases hc
  have rowOk : ∀ {n : Nat} {v : Value} {xs : List Value}, W.ownsRow w.heap.size 3 1 v n xs → W1.ownsRow w.heap.size 3 1 v n xs := fun ho => own_of_block ho fun g hv => by
    obtain ⟨cs, hc⟩ := own_isCells ho hv
    exact hg.block g (ho.lt g hv).2 (ne g cs _ hc)
  exact ⟨h.box.kept hg (ne _ _ _ h.box), rowOk h.left, rowOk h.list, h.far, h.out, h.bel.grown hg h.bel.size (fun k e => Nat.le_trans hw (hr k e).1), fun r hm => ⟨(h.marks r hm).1, (hg.block r (Array.getElem?_eq_some_iff.1 (h.marks r hm).2).1 (fun e => by have := (hr r e.symm).1; have := hC r hm; omega)).trans (h.marks r hm).2⟩⟩
theorem Mid.alloc (h : Mid w bx rs ov os gl lc l W) (o : Obj) : Mid w bx rs ov os gl lc l (W.alloc o) :=
  ⟨h.box.alloc o, h.left.alloc o, h.list.alloc o, h.far, h.out, h.bel.alloc h.bel.size o, fun r hm => ⟨(h.marks r hm).1, (Below.heap_alloc W o r (Array.getElem?_eq_some_iff.1 (h.marks r hm).2).1).trans (h.marks r hm).2⟩⟩

/-- A number is taken away. -/
theorem Mid.popped {i : Nat} (h : Mid w bx rs ov os gl lc (l ++ [i]) W) : Mid w bx rs ov os gl lc l (W.setCell ⟨bx, 0, none⟩ (.slice (some ⟨gl, 0, none⟩) l.length lc)) := by
  obtain ⟨n1, n2⟩ := h.bx_ne
  have blk : ∀ k, k ≠ bx → (W.setCell ⟨bx, 0, none⟩ (.slice (some ⟨gl, 0, none⟩) l.length lc)).heap[k]? = W.heap[k]? := fun k hk => Below.heap_setCell W _ _ k (by simpa using hk)
  refine ⟨h.box.set _, ?_, own_of_block h.list fun g hg => blk g (fun e => n2 (by rw [← e]; exact hg)), h.far, h.out, h.bel.setCell (p := ⟨bx, 0, none⟩) h.out _, fun r hm => ⟨(h.marks r hm).1, (blk r (h.mark_ne hm).1).trans (h.marks r hm).2⟩⟩
  have hl := h.left
  rcases hl.2 with ⟨hv, -⟩ | ⟨g', cap, cur, hv, h1, h2, h3, h4, h5, h6⟩
  · cases hv
  · simp only [Value.slice.injEq, Option.some.injEq, Addr.mk.injEq, and_true, true_and] at hv
    obtain ⟨rfl, rfl⟩ := hv
    rw [List.length_append, List.length_singleton] at h3 h6
    refine ⟨by rw [nums_length, Nat.mul_one], .inr ⟨gl, lc, cur, rfl, h1, (blk gl n1).trans h2, by omega, h4, h5, ?_⟩⟩
    have := congrArg (List.take (l.length * 1)) h6
    rw [List.take_take, nums_append, List.take_left' (by rw [nums_length, Nat.mul_one])] at this
    rw [← this]
    congr 1
    omega
/-- A number is listed. -/
theorem Mid.listed {i : Nat} {o : Obj} {v' : Value} (h : Mid w bx rs ov os gl lc l W) (hown : W1.ownsRow w.heap.size 3 1 v' (os.length + 1) (nums os ++ [.int .i64 (i : Int)])) (hgrow : (W.alloc o).grownBy W1 ov.ownBlock)
    (hat : v'.ownBlock = ov.ownBlock ∨ v'.ownBlock = some (W.alloc o).heap.size) : Mid w bx rs v' (os ++ [i]) gl lc l W1 := by
  have h' := h.alloc o
  obtain ⟨n1, n2⟩ := h'.bx_ne
  have hl := (h'.left.lt gl rfl).2
  refine ⟨h'.box.kept hgrow (fun e => n2 e.symm), own_of_block h'.left fun g hg => ?_, ?_, fun e => ?_, h.out, h'.bel.grown hgrow h'.bel.size (fun k e => (h'.list.lt k e).1), fun r hm => ⟨(h.marks r hm).1, (hgrow.block r (Array.getElem?_eq_some_iff.1 (h'.marks r hm).2).1 (fun e => (h'.mark_ne hm).2.2 e.symm)).trans (h'.marks r hm).2⟩⟩
  · obtain rfl : gl = g := by simpa [Value.ownBlock] using hg
    exact hgrow.block gl hl (fun e => h.far e.symm)
  · rw [List.length_append, nums_append]; exact hown
  · rcases hat with hat | hat
    · exact h.far (hat.symm.trans e)
    · rw [hat] at e
      have := Option.some.inj e
      omega
/-- A number is put to those that are left. -/
theorem Mid.pushed {y g1 c1 : Nat} {o : Obj} (h : Mid w bx rs ov os gl lc l W) (hown : W1.ownsRow w.heap.size 3 1 (.slice (some ⟨g1, 0, none⟩) (l.length + 1) c1) (l.length + 1) (nums l ++ [.int .i64 (y : Int)])) (hgrow : (W.alloc o).grownBy W1 (some gl))
    (hat : some g1 = some gl ∨ some g1 = some (W.alloc o).heap.size) : Boxed W1 bx 27 (.slice (some ⟨gl, 0, none⟩) l.length lc) ∧ Mid w bx rs ov os g1 c1 (l ++ [y]) (W1.setCell ⟨bx, 0, none⟩ (.slice (some ⟨g1, 0, none⟩) (l.length + 1) c1)) := by
  have h' := h.alloc o
  obtain ⟨n1, n2⟩ := h'.bx_ne
  have hbx := h'.box.lt
  have n3 : g1 ≠ bx := fun e => by
    subst e
    rcases hat with hat | hat
    · exact n1 (Option.some.inj hat).symm
    · have := Option.some.inj hat; omega
  have blk : ∀ k, k < (W.alloc o).heap.size → k ≠ gl → k ≠ bx → (W1.setCell ⟨bx, 0, none⟩ (.slice (some ⟨g1, 0, none⟩) (l.length + 1) c1)).heap[k]? = (W.alloc o).heap[k]? := fun k h1 h2 h3 =>
    (Below.heap_setCell W1 _ _ k (by simpa using h3)).trans (hgrow.block k h1 (fun e => h2 (Option.some.inj e)))
  have hbox1 : Boxed W1 bx 27 (.slice (some ⟨gl, 0, none⟩) l.length lc) := h'.box.kept hgrow (fun e => n1 (Option.some.inj e).symm)
  refine ⟨hbox1, ?_, ?_, ?_, fun e => ?_, h.out, ?_, fun r hm => ⟨(h.marks r hm).1, (blk r (Array.getElem?_eq_some_iff.1 (h'.marks r hm).2).1 (h'.mark_ne hm).2.1 (h'.mark_ne hm).1).trans (h'.marks r hm).2⟩⟩
  · rw [List.length_append]; exact hbox1.set _
  · rw [List.length_append, nums_append]
    exact own_of_block hown fun g hg => Below.heap_setCell W1 _ _ g (by
      obtain rfl : g1 = g := by simpa [Value.ownBlock] using hg
      simpa using n3)
  · exact own_of_block h'.list fun g hg => blk g (h'.list.lt g hg).2 (fun e => h.far (by rw [← e]; exact hg)) (fun e => n2 (by rw [← e]; exact hg))
  · rcases hat with hat | hat
    · exact h.far (by rw [← hat]; exact e)
    · have := (h'.list.lt g1 e).2
      have := Option.some.inj hat
      omega
  · exact (h'.bel.grown hgrow h'.bel.size (fun k e => by obtain rfl := Option.some.inj e; exact (h'.left.lt gl rfl).1)).setCell (p := ⟨bx, 0, none⟩) h.out _
theorem Mid.keeps {o : Obj} (h : Mid w bx rs ov os gl lc l W) (hgrow : (W.alloc o).grownBy W1 (some gl)) (v : Value) : KeepsOthers W (W1.setCell ⟨bx, 0, none⟩ v) := by
  have hs := hgrow.size
  rw [World.size_alloc] at hs
  refine ⟨by simp [World.setCell]; omega, fun k o' hk ho => ?_⟩
  have hlt := (Array.getElem?_eq_some_iff.1 hk).1
  have n1 : k ≠ bx := fun e => by
    subst e
    rw [show W.heap[k]? = _ from h.box] at hk
    cases hk; cases ho
  have n2 : k ≠ gl := fun e => by
    subst e
    obtain ⟨cs, hc⟩ := own_isCells h.left rfl
    rw [hc] at hk
    cases hk; cases ho
  rw [Below.heap_setCell W1 _ _ k (by simpa using n1), hgrow.block k (by rw [World.size_alloc]; omega) (fun e => n2 (Option.some.inj e)), Below.heap_alloc W o k hlt]
  exact hk
theorem Mid.stays {o : Obj} (hgrow : (W.alloc o).grownBy W1 (some gl)) (v : Value) {X : List Nat} (hX : ∀ b ∈ X, b < W.heap.size ∧ b ≠ gl ∧ b ≠ bx) : Stay X W (W1.setCell ⟨bx, 0, none⟩ v) := fun b hb => by
  obtain ⟨h1, h2, h3⟩ := hX b hb
  rw [Below.heap_setCell W1 _ _ b (by simpa using h3), hgrow.block b (by rw [World.size_alloc]; omega) (fun e => h2 (Option.some.inj e)), Below.heap_alloc W o b h1]
end Go.Proofs.YtegbaocpacbljaaDoor.arena
