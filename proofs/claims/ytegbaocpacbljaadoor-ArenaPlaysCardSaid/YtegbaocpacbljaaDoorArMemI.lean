/- What an append to a node's row of numbers, and one to the row of nodes, makes of a tree. -/
import Derived.Test.YtegbaocpacbljaaDoorArTrI
import Derived.Deep.LoopGhost
namespace Go.Proofs.YtegbaocpacbljaaDoor.arenaI
open Go.RowKit Go.Proofs.YtegbaocpacbljaaDoor.arena

/-- A function that is turned at one place. -/
def upd {α : Type} (f : Nat → α) (i : Nat) (x : α) (j : Nat) : α := if j = i then x else f j
theorem upd_same {α : Type} (f : Nat → α) (i : Nat) (x : α) : upd f i x i = x := if_pos rfl
theorem upd_other {α : Type} (f : Nat → α) {i j : Nat} (x : α) (h : j ≠ i) : upd f i x j = f j := if_neg h

theorem flat_set {n u : Nat} (V : Nat → Int) (U : Nat → Int) (K : Nat → Value) (kv : Value) (hu : u < n) : (flat n V U K).set (u * 3 + 2) kv = flat n V U (upd K u kv) := by
  apply List.ext_getElem?
  intro k
  by_cases hk : k < n * 3
  · obtain ⟨i, j, hi, hj, rfl⟩ : ∃ i j, i < n ∧ j < 3 ∧ k = i * 3 + j := ⟨k / 3, k % 3, by omega, by omega, by omega⟩
    rw [List.getElem?_set, flat_at _ _ _ hi hj, flat_at _ _ _ hi hj]
    by_cases e : u * 3 + 2 = i * 3 + j
    · obtain ⟨rfl, rfl⟩ : u = i ∧ j = 2 := by omega
      rw [if_pos e, if_pos (by rw [flat_length]; omega)]
      simp [upd]
    · rw [if_neg e]
      by_cases e2 : i = u
      · subst e2
        obtain rfl | rfl : j = 0 ∨ j = 1 := by omega
        · rfl
        · rfl
      · rw [upd_other K kv e2]
  · rw [List.getElem?_eq_none (by rw [List.length_set, flat_length]; omega), List.getElem?_eq_none (by rw [flat_length]; omega)]
theorem flat_push (n : Nat) (V : Nat → Int) (U : Nat → Int) (K : Nat → Value) (x : Int) (up : Int) (kv : Value) :
    flat (n + 1) (upd V n x) (upd U n up) (upd K n kv) = flat n V U K ++ [.int .i64 x, .int .i64 up, kv] := by
  rw [flat_succ, upd_same, upd_same, upd_same]
  congr 1
  exact flat_congr fun i hi => ⟨upd_other _ _ (by omega), upd_other _ _ (by omega), upd_other _ _ (by omega)⟩

variable {w w1 : World} {B tb : Nat} {most : Int} {nv : Value} {n : Nat} {V : Nat → Int} {U : Nat → Int} {K : Nat → Value} {C : Nat → List Nat}

theorem Tr.kidPushed {nb cap u g1 m1 cap1 : Nat} (h : Tr w B tb most (.slice (some ⟨nb, 0, none⟩) n cap) n V U K C) (hu : u < n) (l : List Nat)
    (hown : w1.ownsRow B 3 1 (.slice (some ⟨g1, 0, none⟩) m1 cap1) l.length (nums l)) (hgrow : w.grownBy w1 (K u).ownBlock) (hat : (K u).ownBlock = some g1 ∨ w.heap.size ≤ g1) :
    Tr (w1.setCell ⟨nb, u * 3 + 2, none⟩ (.slice (some ⟨g1, 0, none⟩) m1 cap1)) B tb most (.slice (some ⟨nb, 0, none⟩) n cap) n V U (upd K u (.slice (some ⟨g1, 0, none⟩) m1 cap1)) (upd C u l) ∧
    Mv (Foot tb (.slice (some ⟨nb, 0, none⟩) n cap) n K) w (w1.setCell ⟨nb, u * 3 + 2, none⟩ (.slice (some ⟨g1, 0, none⟩) m1 cap1)) := by
  have hnb : nb < w.heap.size := (h.own.lt nb rfl).2
  have htb := h.lt
  have n1 : nb ≠ tb := fun e => h.a1 (by rw [e]; rfl)
  have n2 : g1 ≠ nb := fun e => by
    subst e
    rcases hat with hat | hat
    · exact h.a3 u g1 hu hat rfl
    · omega
  have n3 : g1 ≠ tb := fun e => by
    subst e
    rcases hat with hat | hat
    · exact h.a2 u hu hat
    · omega
  have s1 : ∀ k, k < w.heap.size → (K u).ownBlock ≠ some k → k ≠ nb → (w1.setCell ⟨nb, u * 3 + 2, none⟩ (.slice (some ⟨g1, 0, none⟩) m1 cap1)).heap[k]? = w.heap[k]? := fun k hk h1 h2 =>
    (Below.heap_setCell w1 _ _ k (by simpa using h2)).trans (hgrow.block k hk (fun e => h1 e.symm))
  refine ⟨⟨h.base, ?_, ?_, ?_, h.a1, ?_, ?_, ?_⟩, ?_⟩
  · exact (s1 tb htb (h.a2 u hu) (Ne.symm n1)).trans h.head
  · have o1 : w1.ownsRow B 55 3 (.slice (some ⟨nb, 0, none⟩) n cap) n (flat n V U K) := own_of_block h.own fun g hg => by
      obtain rfl : nb = g := by simpa [Value.ownBlock] using hg
      exact hgrow.block nb hnb (fun e => h.a3 u nb hu e.symm rfl)
    have := (o1.stored (u * 3 + 2) (.slice (some ⟨g1, 0, none⟩) m1 cap1)).1
    rwa [flat_set V U K _ hu] at this
  · intro i hi
    by_cases e : i = u
    · subst e
      rw [upd_same, upd_same]
      exact own_of_block hown fun g hg => Below.heap_setCell w1 _ _ g (by
        obtain rfl : g1 = g := by simpa [Value.ownBlock] using hg
        simpa using n2)
    · rw [upd_other _ _ e, upd_other _ _ e]
      refine own_of_block (h.kid i hi) fun g hg => s1 g ((h.kid i hi).lt g hg).2 (h.a4 i u g hi hu e hg) fun e2 => ?_
      subst e2
      exact h.a3 i g hi hg rfl
  · intro i hi
    by_cases e : i = u
    · subst e
      rw [upd_same]
      simpa [Value.ownBlock] using n3
    · rw [upd_other _ _ e]; exact h.a2 i hi
  · intro i g hi
    by_cases e : i = u
    · subst e
      rw [upd_same]
      intro hg
      obtain rfl : g1 = g := by simpa [Value.ownBlock] using hg
      simpa [Value.ownBlock] using Ne.symm n2
    · rw [upd_other _ _ e]; exact h.a3 i g hi
  · intro i j g hi hj hij hg
    by_cases e : i = u
    · subst e
      rw [upd_same] at hg
      rw [upd_other _ _ (Ne.symm hij)]
      obtain rfl : g1 = g := by simpa [Value.ownBlock] using hg
      intro hj2
      rcases hat with hat | hat
      · exact h.a4 i j g1 hi hj hij hat hj2
      · have := ((h.kid j hj).lt g1 hj2).2; omega
    · rw [upd_other _ _ e] at hg
      by_cases e2 : j = u
      · subst e2
        rw [upd_same]
        intro hj2
        obtain rfl : g1 = g := by simpa [Value.ownBlock] using hj2
        rcases hat with hat | hat
        · exact h.a4 i j g1 hi hj hij hg hat
        · have := ((h.kid i hi).lt g1 hg).2; omega
      · rw [upd_other _ _ e2]; exact h.a4 i j g hi hj hij hg
  · exact (Mv.of_grown (F := Foot tb (.slice (some ⟨nb, 0, none⟩) n cap) n K) hgrow fun k hk => .inl (.inr (.inr ⟨u, hu, hk⟩))).trans (Mv.of_set w1 _ _ (.inl (show Foot tb (.slice (some ⟨nb, 0, none⟩) n cap) n K nb from .inr (.inl rfl)))) fun x hx => .inl hx

theorem Tr.nodePushed {g cap : Nat} (h : Tr w B tb most nv n V U K C) (x : Int) (up : Int)
    (hown : w1.ownsRow B 55 3 (.slice (some ⟨g, 0, none⟩) (n + 1) cap) (n + 1) (flat n V U K ++ [.int .i64 x, .int .i64 up, .slice none 0 0])) (hgrow : w.grownBy w1 nv.ownBlock) (hat : nv.ownBlock = some g ∨ w.heap.size ≤ g) :
    Tr (w1.setCell ⟨tb, 1, none⟩ (.slice (some ⟨g, 0, none⟩) (n + 1) cap)) B tb most (.slice (some ⟨g, 0, none⟩) (n + 1) cap) (n + 1) (upd V n x) (upd U n up) (upd K n (.slice none 0 0)) (upd C n []) ∧
    Mv (Foot tb nv n K) w (w1.setCell ⟨tb, 1, none⟩ (.slice (some ⟨g, 0, none⟩) (n + 1) cap)) := by
  have htb := h.lt
  have n1 : g ≠ tb := fun e => by
    subst e
    rcases hat with hat | hat
    · exact h.a1 hat
    · omega
  have s1 : ∀ k, k < w.heap.size → nv.ownBlock ≠ some k → k ≠ tb → (w1.setCell ⟨tb, 1, none⟩ (.slice (some ⟨g, 0, none⟩) (n + 1) cap)).heap[k]? = w.heap[k]? := fun k hk h1 h2 =>
    (Below.heap_setCell w1 _ _ k (by simpa using h2)).trans (hgrow.block k hk (fun e => h1 e.symm))
  have hk : ∀ i, i < n → upd K n (.slice none 0 0) i = K i := fun i hi => upd_other _ _ (by omega)
  refine ⟨⟨h.base, ?_, ?_, ?_, ?_, ?_, ?_, ?_⟩, ?_⟩
  · have h2 : w1.heap[tb]? = some (.cells #[.int .i64 most, nv] 51 (0, 0)) := (hgrow.block tb htb (fun e => h.a1 e.symm)).trans h.head
    exact heap_setCell_same w1 tb 1 _ _ _ h2
  · rw [flat_push]
    exact own_of_block hown fun k hk => Below.heap_setCell w1 _ _ k (by
      obtain rfl : g = k := by simpa [Value.ownBlock] using hk
      simpa using n1)
  · intro i hi
    by_cases e : i = n
    · subst e
      rw [upd_same, upd_same]
      exact World.ownsRow_nil _ _ _ _
    · rw [upd_other _ _ e, upd_other _ _ e]
      refine own_of_block (h.kid i (by omega)) fun k hk => s1 k ((h.kid i (by omega)).lt k hk).2 (h.a3 i k (by omega) hk) fun e2 => ?_
      subst e2
      exact h.a2 i (by omega) hk
  · simpa [Value.ownBlock] using n1
  · intro i hi
    by_cases e : i = n
    · subst e; rw [upd_same]; simp [Value.ownBlock]
    · rw [upd_other _ _ e]; exact h.a2 i (by omega)
  · intro i k hi
    by_cases e : i = n
    · subst e; rw [upd_same]; simp [Value.ownBlock]
    · rw [upd_other _ _ e]
      intro hk e2
      obtain rfl : g = k := by simpa [Value.ownBlock] using e2
      rcases hat with hat | hat
      · exact h.a3 i g (by omega) hk hat
      · have := ((h.kid i (by omega)).lt g hk).2; omega
  · intro i j k hi hj hij
    by_cases e : i = n
    · subst e; rw [upd_same]; simp [Value.ownBlock]
    · rw [upd_other _ _ e]
      by_cases e2 : j = n
      · subst e2; rw [upd_same]; simp [Value.ownBlock]
      · rw [upd_other _ _ e2]
        exact h.a4 i j k (by omega) (by omega) hij
  · exact (Mv.of_grown (F := Foot tb nv n K) hgrow fun k hk => .inl (.inr (.inl hk))).trans (Mv.of_set w1 _ _ (.inl (show Foot tb nv n K tb from .inl rfl))) fun x hx => .inl hx
theorem foot_node {g m cap N : Nat} (hat : nv.ownBlock = some g ∨ N ≤ g) (k : Nat) (hk : Foot tb (.slice (some ⟨g, 0, none⟩) m cap) (n + 1) (upd K n (.slice none 0 0)) k) : Foot tb nv n K k ∨ N ≤ k := by
  rcases hk with rfl | hk | ⟨i, hi, hk⟩
  · exact .inl (.inl rfl)
  · obtain rfl : g = k := by simpa [Value.ownBlock] using hk
    exact hat.imp (fun e => .inr (.inl e)) id
  · by_cases e : i = n
    · subst e; rw [upd_same] at hk; simp [Value.ownBlock] at hk
    · rw [upd_other _ _ e] at hk; exact .inl (.inr (.inr ⟨i, by omega, hk⟩))
theorem foot_kid {u g m cap N : Nat} (hu : u < n) (hat : (K u).ownBlock = some g ∨ N ≤ g) (k : Nat) (hk : Foot tb nv n (upd K u (.slice (some ⟨g, 0, none⟩) m cap)) k) : Foot tb nv n K k ∨ N ≤ k := by
  rcases hk with rfl | hk | ⟨i, hi, hk⟩
  · exact .inl (.inl rfl)
  · exact .inl (.inr (.inl hk))
  · by_cases e : i = u
    · subst e
      rw [upd_same] at hk
      obtain rfl : g = k := by simpa [Value.ownBlock] using hk
      exact hat.imp (fun e => .inr (.inr ⟨i, hu, e⟩)) id
    · rw [upd_other _ _ e] at hk; exact .inl (.inr (.inr ⟨i, hi, hk⟩))
theorem Tr.nodeStep {g cap : Nat} (h : Tr w B tb most nv n V U K C) (o : Obj) (x : Int) (up : Int)
    (hown : w1.ownsRow B 55 3 (.slice (some ⟨g, 0, none⟩) (n + 1) cap) (n + 1) (flat n V U K ++ [.int .i64 x, .int .i64 up, .slice none 0 0])) (hgrow : (w.alloc o).grownBy w1 nv.ownBlock) (hat : nv.ownBlock = some g ∨ g = w.heap.size + 1) :
    w1.cell? ⟨tb, 1, none⟩ = some nv ∧ w1.frozen? ⟨tb, 1, none⟩ = false ∧ Aside (Tr (w1.setCell ⟨tb, 1, none⟩ (.slice (some ⟨g, 0, none⟩) (n + 1) cap)) B tb most (.slice (some ⟨g, 0, none⟩) (n + 1) cap) (n + 1) (upd V n x) (upd U n up) (upd K n (.slice none 0 0)) (upd C n []) ∧
    Mv (Foot tb nv n K) w (w1.setCell ⟨tb, 1, none⟩ (.slice (some ⟨g, 0, none⟩) (n + 1) cap)) ∧ ∀ k, Foot tb (.slice (some ⟨g, 0, none⟩) (n + 1) cap) (n + 1) (upd K n (.slice none 0 0)) k → Foot tb nv n K k ∨ w.heap.size ≤ k) := by
  have hlt := h.lt
  have h' : Tr (w.alloc o) B tb most nv n V U K C := h.mv (Mv.of_alloc w o fun _ => False) fun _ _ => id
  obtain ⟨p1, p2⟩ := h'.nodePushed x up hown hgrow (hat.imp id (fun e => by simp; omega))
  refine ⟨?_, ?_, p1, (Mv.of_alloc w o _).trans p2 fun x hx => .inl hx, foot_node (hat.imp id (fun e => by omega))⟩
  · rw [hgrow.cell_far _ (by simp; omega) (fun e => h.a1 e.symm)]; exact h'.c1
  · rw [hgrow.frozen_far _ (by simp; omega) (fun e => h.a1 e.symm)]; exact h'.f1 1
theorem Tr.kidStep {nb cap u g1 m1 cap1 : Nat} (h : Tr w B tb most (.slice (some ⟨nb, 0, none⟩) n cap) n V U K C) (hu : u < n) (o : Obj) (l : List Nat)
    (hown : w1.ownsRow B 3 1 (.slice (some ⟨g1, 0, none⟩) m1 cap1) l.length (nums l)) (hgrow : (w.alloc o).grownBy w1 (K u).ownBlock) (hat : (K u).ownBlock = some g1 ∨ g1 = w.heap.size + 1) :
    Aside (Tr (w1.setCell ⟨nb, u * 3 + 2, none⟩ (.slice (some ⟨g1, 0, none⟩) m1 cap1)) B tb most (.slice (some ⟨nb, 0, none⟩) n cap) n V U (upd K u (.slice (some ⟨g1, 0, none⟩) m1 cap1)) (upd C u l) ∧
    Mv (Foot tb (.slice (some ⟨nb, 0, none⟩) n cap) n K) w (w1.setCell ⟨nb, u * 3 + 2, none⟩ (.slice (some ⟨g1, 0, none⟩) m1 cap1)) ∧ ∀ k, Foot tb (.slice (some ⟨nb, 0, none⟩) n cap) n (upd K u (.slice (some ⟨g1, 0, none⟩) m1 cap1)) k → Foot tb (.slice (some ⟨nb, 0, none⟩) n cap) n K k ∨ w.heap.size ≤ k) := by
  have h' : Tr (w.alloc o) B tb most (.slice (some ⟨nb, 0, none⟩) n cap) n V U K C := h.mv (Mv.of_alloc w o fun _ => False) fun _ _ => id
  obtain ⟨p1, p2⟩ := h'.kidPushed hu l hown hgrow (hat.imp id (fun e => by simp; omega))
  exact ⟨p1, (Mv.of_alloc w o _).trans p2 fun x hx => .inl hx, foot_kid hu (hat.imp id (fun e => by omega))⟩
end Go.Proofs.YtegbaocpacbljaaDoor.arenaI
