/- The frame of a walk of a tree at the head of its loop; how the function leaves with the marks of its loops. -/
import Derived.Test.YtegbaocpacbljaaDoorArWRel
import Derived.Deep.LoopGhost
namespace Go.Proofs.YtegbaocpacbljaaDoor.arena
open Go.RowKit Go.Shelf

def marksOf (rs : List Nat) : List Deferred := rs.map fun r => { target := .collected r, args := #[] }
/-- What the return turns: the marks' blocks. -/
structure Shut (rs : List Nat) (W W' : World) : Prop where
  os : W'.os = W.os
  tape : W'.tape = W.tape
  output : W'.output = W.output
  size : W.heap.size ≤ W'.heap.size
  block : ∀ k, k ∉ rs → W'.heap[k]? = W.heap[k]?
theorem leaves_marks {F : Fence} {n : Nat} {P : Program} {fn : Func} {tmps : Array Value} {R : Ending → World → Prop} : ∀ (rs : List Nat) (W : World), rs.Nodup → (∀ r ∈ rs, W.heap[r]? = some (.deferred (some []))) →
    (∀ W', Shut rs W W' → LeavesIn F n P fn tmps R [] .returning W') → LeavesInM F n P fn tmps R (marksOf rs) .returning W
  | [], W, _, _, h => h W ⟨rfl, rfl, rfl, Nat.le_refl _, fun _ _ => rfl⟩
  | r :: rs, W, hn, hm, h => by
    obtain ⟨h1, h2⟩ := List.nodup_cons.1 hn
    have hr := hm r (List.mem_cons_self ..)
    refine ⟨by simp, .inl ⟨_, _, rfl, run_takeDeferred hr, ?_⟩⟩
    refine leaves_marks rs _ h2 (fun k hk => ?_) fun W' hs => h W' ?_
    · rw [World.putObj_heap_other (fun e => h1 (by rw [← e]; exact hk))]
      exact hm k (List.mem_cons_of_mem _ hk)
    · refine ⟨hs.os, hs.tape, hs.output, ?_, fun k hk => ?_⟩
      · have := hs.size; simpa using this
      · rw [hs.block k (fun e => hk (List.mem_cons_of_mem _ e)), World.putObj_heap_other (fun e => hk (by rw [← e]; exact List.mem_cons_self ..))]

/-- The frame at the head of the loop, and what holds there. -/
def WInv (w : World) (tb x n : Nat) (C : Nat → List Nat) (g : Nat) (a : Act) (W : World) : Prop :=
  ∃ (ov : Value) (rs : List Nat) (u7 u8 u16 u17 u18 u19 u20 u21 u22 u23 u24 u25 u26 u27 u28 u29 u30 u31 u32 u33 u34 u35 u36 u37 u38 u39 u40 u41 u42 : Value), a = { tmps := #[.pointer (some ⟨tb, 0, none⟩), .int .i64 (x : Int), undef, undef, .slice none 0 0, ov, .pointer (some ⟨w.heap.size + 1, 0, none⟩), u7, u8, undef, undef, .pointer (some ⟨tb, 0, none⟩), .int .i64 (x : Int), .bool true, .bool false, .int .i64 (x : Int), u16, u17, u18, u19, u20, u21, u22, u23, u24, u25, u26, u27, u28, u29, u30, u31, u32, u33, u34, u35, u36, u37, u38, u39, u40, u41, u42, undef, undef, undef, undef, undef, undef, undef], defers := marksOf rs } ∧
    ∃ (s os : List Nat) (gl lc : Nat), os ++ s.flatMap (walk n C) = walk n C x ∧ (∀ y ∈ s, y < n) ∧ (s.flatMap (walk n C)).length = g ∧ rs.Nodup ∧ Mid w (w.heap.size + 1) rs ov os gl lc s.reverse W

theorem len_left {n : Nat} {C : Nat → List Nat} (h : Kd n C) : ∀ {s : List Nat}, (∀ y ∈ s, y < n) → s.length ≤ (s.flatMap (walk n C)).length
  | [], _ => Nat.le_refl _
  | y :: s, hs => by
    have := len_left h (s := s) fun z hz => hs z (List.mem_cons_of_mem _ hz)
    rw [List.flatMap_cons, List.length_append, walk_eq h (hs y (List.mem_cons_self ..))]
    simp only [List.length_cons]
    omega
end Go.Proofs.YtegbaocpacbljaaDoor.arena
