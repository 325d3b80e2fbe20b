/- Blocks of cells that stand whole. -/
import Derived.Test.YtelofhplpeeplaaDoorCalm
import Derived.Laws.AppendOwn
import Derived.Laws.OwnMore
import Derived.Laws.CopyRow
import Derived.Deep.LoopGhost
set_option linter.unusedSimpArgs false
set_option linter.unusedVariables false
namespace Go.Proofs.YtelofhplpeeplaaDoor.wire
open Go.RowKit Go.Proofs.YtelofhplpeeplaaDoor.errs

/-- A block of cells. -/
def Blk (w : World) (g : Nat) (cs : Array Value) (ty : TypeId) : Prop := w.heap[g]? = some (.cells cs ty (0, 0))
theorem Blk.lt {w : World} {g : Nat} {cs : Array Value} {ty : TypeId} (h : Blk w g cs ty) : g < w.heap.size := (Array.getElem?_eq_some_iff.1 h).1
theorem Blk.below {B : Nat} {w w' : World} {g : Nat} {cs : Array Value} {ty : TypeId} (h : Blk w g cs ty) (hb : Below B w w') (hg : g < B) : Blk w' g cs ty := (hb.block g hg).trans h
theorem Blk.get {w : World} {g : Nat} {cs : Array Value} {ty : TypeId} (h : Blk w g cs ty) (i : Nat) : w.cell? ⟨g, i, none⟩ = cs[i]? := cell_of_row w g i cs ty (0, 0) h
theorem Blk.frz {w : World} {g : Nat} {cs : Array Value} {ty : TypeId} (h : Blk w g cs ty) (i : Nat) : w.frozen? ⟨g, i, none⟩ = false := frozen_of_row w g i cs ty h
theorem blk_new (w : World) (cs : Array Value) (ty : TypeId) : Blk (w.alloc (.cells cs ty)) w.heap.size cs ty := heap_alloc_new w _
theorem Blk.set {w : World} {g : Nat} {cs : Array Value} {ty : TypeId} (h : Blk w g cs ty) (i : Nat) (u : Value) : Blk (w.setCell ⟨g, i, none⟩ u) g (cs.setIfInBounds i u) ty := heap_setCell_same w g i cs ty u h
theorem Blk.other {w : World} {g : Nat} {cs : Array Value} {ty : TypeId} (h : Blk w g cs ty) (p : Addr) (hp : g ≠ p.block) (u : Value) : Blk (w.setCell p u) g cs ty := (heap_setCell_other w p g u hp).trans h
theorem Blk.alloc {w : World} {g : Nat} {cs : Array Value} {ty : TypeId} (h : Blk w g cs ty) (o : Obj) : Blk (w.alloc o) g cs ty := h.below ((Below.refl w.heap.size w).alloc (Nat.le_refl _) o) h.lt
theorem below_drawN {B : Nat} {a w : World} (h : Below B a w) (n : Nat) : Below B a (w.drewN n) := ⟨h.os, h.tape, h.output, h.size, h.block⟩
end Go.Proofs.YtelofhplpeeplaaDoor.wire
/- Rows of requests: what a block of them holds, and what an append within its room and a clearing leave. -/
set_option linter.unusedSimpArgs false
set_option linter.unusedVariables false
namespace Go.Proofs.YtelofhplpeeplaaDoor.wire
open Go.RowKit Go.Proofs.YtelofhplpeeplaaDoor.errs

/-- A request that waits. -/
structure Rq where
  id : Nat
  app : ByteArray
  apple : Bool
  kind : Int
  text : ByteArray
  url : ByteArray
  since : Nat
def noRq : Rq := ⟨0, ⟨#[]⟩, false, 0, ⟨#[]⟩, ⟨#[]⟩, 0⟩
def at_ (L : List Rq) (j : Nat) : Rq := L.getD j noRq
theorem at_get {L : List Rq} {j : Nat} (h : j < L.length) : at_ L j = L[j] := by
  unfold at_
  rw [List.getD_eq_getElem?_getD, List.getElem?_eq_getElem h]; rfl
/-- Its cells, as a request alone, and as one that waits. -/
def enc6 (p : Rq) : List Value := [.int .u64 (p.id : Int), .string p.app, .bool p.apple, .int .i64 p.kind, .string p.text, .string p.url]
def enc7 (p : Rq) : List Value := [.int .u64 (p.id : Int), .string p.app, .bool p.apple, .int .i64 p.kind, .string p.text, .string p.url, .int .u64 (p.since : Int)]
abbrev arr6 (p : Rq) : Array Value := #[.int .u64 (p.id : Int), .string p.app, .bool p.apple, .int .i64 p.kind, .string p.text, .string p.url]
abbrev arr7 (p : Rq) : Array Value := #[.int .u64 (p.id : Int), .string p.app, .bool p.apple, .int .i64 p.kind, .string p.text, .string p.url, .int .u64 (p.since : Int)]
theorem len6 (p : Rq) : (enc6 p).length = 6 := rfl
theorem len7 (p : Rq) : (enc7 p).length = 7 := rfl

def flatE (enc : Rq → List Value) (L : List Rq) : List Value := L.flatMap enc
section
variable {enc : Rq → List Value} {k : Nat} (hk : ∀ x, (enc x).length = k)
theorem flatE_append (a b : List Rq) : flatE enc (a ++ b) = flatE enc a ++ flatE enc b := List.flatMap_append
theorem flatE_one (x : Rq) : flatE enc [x] = enc x := by simp [flatE]
include hk
theorem flatE_len : ∀ L : List Rq, (flatE enc L).length = L.length * k
  | [] => by simp [flatE]
  | x :: L => by
    have := flatE_len L
    unfold flatE at this ⊢
    rw [List.flatMap_cons, List.length_append, hk, this, List.length_cons, Nat.succ_mul, Nat.add_comm]
theorem flatE_take : ∀ (L : List Rq) (j : Nat), (flatE enc L).take (j * k) = flatE enc (L.take j)
  | [], j => by simp [flatE]
  | x :: L, 0 => by simp [flatE]
  | x :: L, j + 1 => by
    have := flatE_take L j
    unfold flatE at this ⊢
    rw [List.take_succ_cons, List.flatMap_cons, List.flatMap_cons, ← this, Nat.succ_mul, Nat.add_comm, ← hk x, List.take_length_add_append]
theorem flatE_drop : ∀ (L : List Rq) (j : Nat), (flatE enc L).drop (j * k) = flatE enc (L.drop j)
  | [], j => by simp [flatE]
  | x :: L, 0 => by simp [flatE]
  | x :: L, j + 1 => by
    have := flatE_drop L j
    unfold flatE at this ⊢
    rw [List.drop_succ_cons, List.flatMap_cons, ← this, Nat.succ_mul, Nat.add_comm, ← hk x, List.drop_length_add_append]
theorem flatE_at (L : List Rq) (j i : Nat) (hj : j < L.length) (hi : i < k) : (flatE enc L)[j * k + i]? = (enc (at_ L j))[i]? := by
  have h := flatE_drop hk L j
  have e : (flatE enc L)[j * k + i]? = ((flatE enc L).drop (j * k))[i]? := by rw [List.getElem?_drop]
  rw [e, h, List.drop_eq_getElem_cons hj, at_get hj]
  unfold flatE
  rw [List.flatMap_cons, List.getElem?_append_left (by rw [hk]; exact hi)]
theorem flatE_put (L : List Rq) (j : Nat) (hj : j < L.length) (x : Rq) : (flatE enc L).take (j * k) ++ enc x ++ (flatE enc L).drop (j * k + k) = flatE enc (L.set j x) := by
  rw [flatE_take hk, show j * k + k = (j + 1) * k by rw [Nat.succ_mul], flatE_drop hk, List.set_eq_take_append_cons_drop, if_pos hj, flatE_append]
  unfold flatE
  rw [List.flatMap_cons, List.append_assoc]
end
theorem cells6 (L : List Rq) : ∀ u ∈ flatE enc6 L, u.oneCell' = true := by
  intro u hu
  obtain ⟨p, -, hp⟩ := List.mem_flatMap.1 hu
  simp [enc6] at hp
  rcases hp with rfl | rfl | rfl | rfl | rfl | rfl <;> rfl
theorem cells7 (L : List Rq) : ∀ u ∈ flatE enc7 L, u.oneCell' = true := by
  intro u hu
  obtain ⟨p, -, hp⟩ := List.mem_flatMap.1 hu
  simp [enc7] at hp
  rcases hp with rfl | rfl | rfl | rfl | rfl | rfl | rfl <;> rfl
theorem info7 : (Tryd.prog.info? 77).map (fun i => (i.zero, i.size, i.bytes)) = some (some (.agg #[.int .u64 0, .string ⟨#[]⟩, .bool false, .int .i64 0, .string ⟨#[]⟩, .string ⟨#[]⟩, .int .u64 0]), 7, 80) := by kernel_rfl
theorem info6 : (Tryd.prog.info? 45).map (fun i => (i.zero, i.size, i.bytes)) = some (some (.agg #[.int .u64 0, .string ⟨#[]⟩, .bool false, .int .i64 0, .string ⟨#[]⟩, .string ⟨#[]⟩]), 6, 72) := by kernel_rfl

/-- A block that holds requests that wait, from its beginning on. -/
def RowAt (w : World) (g cap : Nat) (D : List Rq) : Prop :=
  ∃ cur, Blk w g cur 77 ∧ D.length ≤ cap ∧ cap ≤ maxLen ∧ cur.size = cap * 7 ∧ cur.toList.take (D.length * 7) = flatE enc7 D
theorem RowAt.lt {w : World} {g cap : Nat} {D : List Rq} (h : RowAt w g cap D) : g < w.heap.size := by
  obtain ⟨cur, h, -⟩ := h
  exact h.lt
theorem RowAt.room {w : World} {g cap : Nat} {D : List Rq} (h : RowAt w g cap D) : D.length ≤ cap ∧ cap ≤ maxLen := by
  obtain ⟨cur, -, h1, h2, -⟩ := h
  exact ⟨h1, h2⟩
theorem RowAt.keep {w w' : World} {g cap : Nat} {D : List Rq} (h : RowAt w g cap D) (hb : w'.heap[g]? = w.heap[g]?) : RowAt w' g cap D := by
  obtain ⟨cur, h0, h⟩ := h
  exact ⟨cur, hb.trans h0, h⟩
theorem RowAt.cell {w : World} {g cap : Nat} {D : List Rq} (h : RowAt w g cap D) {j i : Nat} (hj : j < D.length) (hi : i < 7) : w.cell? ⟨g, j * 7 + i, none⟩ = (enc7 (at_ D j))[i]? := by
  obtain ⟨cur, h0, h1, h2, h3, h4⟩ := h
  rw [h0.get, ← flatE_at len7 D j i hj hi, ← h4, List.getElem?_take, if_pos (by omega)]
  simp
theorem RowAt.own {w : World} {g cap : Nat} {D : List Rq} (h : RowAt w g cap D) {B j : Nat} (hB : B ≤ g) (hj : j ≤ D.length) : w.ownsRow B 77 7 (.slice (some ⟨g, 0, none⟩) j cap) j (flatE enc7 (D.take j)) := by
  obtain ⟨cur, h0, h1, h2, h3, h4⟩ := h
  refine ⟨by rw [flatE_len len7, List.length_take, Nat.min_eq_left hj], .inr ⟨g, cap, cur, rfl, hB, h0, by omega, h2, h3, ?_⟩⟩
  rw [← flatE_take len7, ← h4, List.take_take, Nat.min_eq_left (Nat.mul_le_mul_right _ hj)]
theorem own_rowAt {w : World} {B g n cap : Nat} {D : List Rq} (h : w.ownsRow B 77 7 (.slice (some ⟨g, 0, none⟩) n cap) D.length (flatE enc7 D)) : RowAt w g cap D ∧ B ≤ g ∧ n = D.length := by
  rcases h.2 with ⟨h', _⟩ | ⟨g', cap', cur, hv, hB, hg, hn, hm, hs, ht⟩
  · cases h'
  · cases hv
    exact ⟨⟨cur, hg, hn, hm, hs, ht⟩, hB, rfl⟩

/-- What an append within the room leaves. -/
theorem run_put {i : TypeInfo} (hi : Tryd.prog.info? 77 = some i) (hs : i.size = 7) {w : World} {g cap : Nat} {D : List Rq} (h : RowAt w g cap D) {j : Nat} (hj : j < D.length) (x : Rq) (b : Nat) (hx : ∀ k u, (enc7 x)[k]? = some u → w.cell? ((⟨b, 0, none⟩ : Addr).add k) = some u) (ty : TypeId) :
    ∃ w', (Builtin.append_ #[72, 72] ty #[.slice (some ⟨g, 0, none⟩) j cap, .slice (some ⟨b, 0, none⟩) 1 1]).run Tryd.prog w = .ok (.slice (some ⟨g, 0, none⟩) (j + 1) cap) w' ∧ RowAt w' g cap (D.set j x) ∧ w.grownBy w' (some g) := by
  obtain ⟨cur, h0, h1, h2, h3, h4⟩ := h
  have hl : (enc7 x).length = 1 * i.size := by rw [hs]; rfl
  have hr := run_append_room (P := Tryd.prog) w 72 ty 77 i Tryd.underlying72 hi g j cap cur h0 ⟨b, 0, none⟩ 1 1 (enc7 x) hl hx (fun u hu => cells7 [x] u (by rw [flatE_one]; exact hu)) (by omega) (by rw [hs, len7, h3]; omega)
  refine ⟨_, hr, ⟨_, setRow_heap w g cur _ _ _ h0, by rw [List.length_set]; exact h1, h2, ?_, ?_⟩, ⟨rfl, rfl, rfl, by simp, fun k _ hk => setRow_other w g k _ (fun e => hk (by simp [e]))⟩⟩
  · rw [hs, len7]
    simp only [List.size_toArray, List.length_append, List.length_take, List.length_drop, Array.length_toList, len7, h3]
    omega
  · rw [hs, len7, List.length_set, ← flatE_put len7 D j hj x, ← h4]
    have e1 : (cur.toList.take (D.length * 7)).take (j * 7) = cur.toList.take (j * 7) := by rw [List.take_take, Nat.min_eq_left (by omega)]
    have e2 : (cur.toList.take (D.length * 7)).drop (j * 7 + 7) = (cur.toList.drop (j * 7 + 7)).take (D.length * 7 - (j * 7 + 7)) := by rw [List.drop_take]
    rw [e1, e2]
    show (cur.toList.take (j * 7) ++ enc7 x ++ cur.toList.drop (j * 7 + 7)).take (D.length * 7) = _
    have hlen : (cur.toList.take (j * 7) ++ enc7 x).length = j * 7 + 7 := by
      rw [List.length_append, List.length_take, Array.length_toList, h3, len7]; omega
    rw [List.take_append, hlen, List.take_of_length_le (by rw [hlen]; omega)]

theorem zero7 : ∃ z : Array Value, (∀ w, (zeroValue 77).run Tryd.prog w = .ok (.agg z) w) ∧ z.size = 7 ∧ ∀ v ∈ z, v.oneCell' = true :=
  ⟨_, Tryd.zeroValue77, rfl, by decide⟩
/-- What a clearing behind the first ones leaves. -/
theorem run_wipe {w : World} {g cap : Nat} {D : List Rq} (h : RowAt w g cap D) {j m : Nat} (hm : 0 < m) (hj : j + m = D.length) (c : Nat) :
    ∃ w', (∀ ty, (Builtin.clear_ #[72] ty #[.slice (some ⟨g, j * 7, none⟩) m c]).run Tryd.prog w = .ok (.tuple #[]) w') ∧ RowAt w' g cap (D.take j) ∧ w.grownBy w' (some g) := by
  obtain ⟨cur, h0, h1, h2, h3, h4⟩ := h
  obtain ⟨z, hv, hs, h5⟩ := zero7
  have hl : (Builtin.zeroCells z m).toList.length = m * 7 := by simp [Builtin.zeroCells, hs, Nat.mul_comm]
  have h5' : ∀ v ∈ (Builtin.zeroCells z m).toList, v.oneCell' = true := by
    intro v hv
    simp only [Builtin.zeroCells, Array.toList_map, List.mem_map] at hv
    obtain ⟨i, hi, rfl⟩ := hv
    have hi2 : i % z.size < z.size := Nat.mod_lt _ (by omega)
    rw [getElem!_pos z _ hi2]
    exact h5 _ (Array.getElem_mem hi2)
  have hst := run_storeCells_at (P := Tryd.prog) g (j * 7) 77 (Builtin.zeroCells z m).toList 0 cur w h0 (by rw [hl, h3]; omega) h5'
  simp only [Nat.add_zero] at hst
  refine ⟨w.setRow g (cur.toList.take (j * 7) ++ (Builtin.zeroCells z m).toList ++ cur.toList.drop (j * 7 + (Builtin.zeroCells z m).toList.length)).toArray, fun ty => ?_, ⟨_, setRow_heap w g cur _ _ _ h0, by rw [List.length_take]; omega, h2, ?_, ?_⟩, ⟨rfl, rfl, rfl, by simp, fun k _ hk => setRow_other w g k _ (fun e => hk (by simp [e]))⟩⟩
  · obtain ⟨m', rfl⟩ : ∃ m', m = m' + 1 := ⟨m - 1, by omega⟩
    simp [Builtin.clear_, run_underlying Tryd.underlying72, hv, hst, Value.cells]
  · simp only [List.size_toArray, List.length_append, List.length_take, List.length_drop, Array.length_toList, hl, h3]
    omega
  · have hjl : (D.take j).length = j := by rw [List.length_take]; omega
    rw [hjl, ← flatE_take len7, ← h4, List.take_take, Nat.min_eq_left (by omega)]
    show (cur.toList.take (j * 7) ++ (Builtin.zeroCells z m).toList ++ _).take (j * 7) = _
    rw [List.append_assoc, List.take_append_of_le_length (by rw [List.length_take, Array.length_toList, h3]; omega), List.take_take, Nat.min_self]
theorem wipe_nil (w : World) (ty : TypeId) : (Builtin.clear_ #[72] ty #[.slice none 0 0]).run Tryd.prog w = .ok (.tuple #[]) w := by
  simp [Builtin.clear_, run_underlying Tryd.underlying72]
theorem wipe_zero (a : Addr) (c : Nat) (w : World) (ty : TypeId) : (Builtin.clear_ #[72] ty #[.slice (some a) 0 c]).run Tryd.prog w = .ok (.tuple #[]) w := by
  simp [Builtin.clear_, run_underlying Tryd.underlying72]
end Go.Proofs.YtelofhplpeeplaaDoor.wire
/- A book in memory; what a call leaves alone. -/
set_option linter.unusedSimpArgs false
set_option linter.unusedVariables false
namespace Go.Proofs.YtelofhplpeeplaaDoor.wire
open Go.RowKit Go.Proofs.YtelofhplpeeplaaDoor.errs

/-- All blocks that stood, but two, are as they were. -/
structure Far (bb : Nat) (g : Option Nat) (w w' : World) : Prop where
  os : w'.os = w.os
  tape : w'.tape = w.tape
  output : w'.output = w.output
  size : w.heap.size ≤ w'.heap.size
  block : ∀ k, k < w.heap.size → k ≠ bb → g ≠ some k → w'.heap[k]? = w.heap[k]?
section
variable {bb : Nat} {g : Option Nat} {w w1 w2 : World}
theorem Far.refl (bb : Nat) (g : Option Nat) (w : World) : Far bb g w w := ⟨rfl, rfl, rfl, Nat.le_refl _, fun _ _ _ _ => rfl⟩
theorem Far.trans (h1 : Far bb g w w1) (h2 : Far bb g w1 w2) : Far bb g w w2 :=
  ⟨h2.os.trans h1.os, h2.tape.trans h1.tape, h2.output.trans h1.output, Nat.le_trans h1.size h2.size, fun k hk h3 h4 => (h2.block k (Nat.lt_of_lt_of_le hk h1.size) h3 h4).trans (h1.block k hk h3 h4)⟩
/-- The second one may know another row, if that is a new one. -/
theorem Far.then {g' : Option Nat} (h1 : Far bb g w w1) (h2 : Far bb g' w1 w2) (hg : g' = g ∨ ∀ q, g' = some q → w.heap.size ≤ q) : Far bb g w w2 :=
  ⟨h2.os.trans h1.os, h2.tape.trans h1.tape, h2.output.trans h1.output, Nat.le_trans h1.size h2.size, fun k hk h3 h4 => (h2.block k (Nat.lt_of_lt_of_le hk h1.size) h3 (by
    rcases hg with rfl | hg
    · exact h4
    · intro e; have := hg k e; omega)).trans (h1.block k hk h3 h4)⟩
theorem far_below {B : Nat} (h : Below B w w1) (hB : w.heap.size ≤ B) : Far bb g w w1 := ⟨h.os, h.tape, h.output, h.size, fun k hk _ _ => h.block k (Nat.lt_of_lt_of_le hk hB)⟩
theorem Far.below {B : Nat} (h : Far bb g w w1) (hw : B ≤ w.heap.size) (hb : B ≤ bb) (hg : ∀ q, g = some q → B ≤ q) : Below B w w1 :=
  ⟨h.os, h.tape, h.output, h.size, fun k hk => h.block k (by omega) (by omega) (fun e => by have := hg k e; omega)⟩
theorem Far.alloc (h : Far bb g w w1) (o : Obj) : Far bb g w (w1.alloc o) := h.trans (far_below ((Below.refl w1.heap.size w1).alloc (Nat.le_refl _) o) (Nat.le_refl _))
theorem Far.set (h : Far bb g w w1) (i : Nat) (u : Value) : Far bb g w (w1.setCell ⟨bb, i, none⟩ u) :=
  ⟨h.os, h.tape, h.output, by simpa using h.size, fun k hk h3 h4 => (heap_setCell_other w1 ⟨bb, i, none⟩ k u h3).trans (h.block k hk h3 h4)⟩
theorem Far.setNew (h : Far bb g w w1) (p : Addr) (hp : w.heap.size ≤ p.block) (u : Value) : Far bb g w (w1.setCell p u) :=
  ⟨h.os, h.tape, h.output, by simpa using h.size, fun k hk h3 h4 => (heap_setCell_other w1 p k u (by omega)).trans (h.block k hk h3 h4)⟩
theorem Far.grown {r : Option Nat} (h : Far bb g w w1) (hg : w1.grownBy w2 r) (hr : r = g ∨ ∀ q, r = some q → w.heap.size ≤ q) : Far bb g w w2 :=
  ⟨hg.os.trans h.os, hg.tape.trans h.tape, hg.output.trans h.output, Nat.le_trans h.size hg.size, fun k hk h3 h4 => (hg.block k (Nat.lt_of_lt_of_le hk h.size) (by
    rcases hr with rfl | hr
    · exact fun e => h4 e.symm
    · intro e; have := hr k e.symm; omega)).trans (h.block k hk h3 h4)⟩
theorem Far.blk {q : Nat} {cs : Array Value} {ty : TypeId} (h : Far bb g w w1) (hq : Blk w q cs ty) (h1 : q ≠ bb) (h2 : g ≠ some q) : Blk w1 q cs ty := (h.block q hq.lt h1 h2).trans hq
theorem Far.drawN (h : Far bb g w w1) (n : Nat) : Far bb g w (w1.drewN n) := ⟨h.os, h.tape, h.output, h.size, h.block⟩
end

/-- A book: how many were asked for, and those that wait. -/
structure Bk (w : World) (bb base : Nat) (v : Value) (N : Nat) (L : List Rq) : Prop where
  blk : Blk w bb #[.int .u64 (N : Int), v] 74
  above : base ≤ bb
  row : w.ownsRow base 77 7 v L.length (flatE enc7 L)
  apart : v.ownBlock ≠ some bb
theorem Bk.kept {w w' : World} {bb base : Nat} {v : Value} {N : Nat} {L : List Rq} (h : Bk w bb base v N L) (hb : Below w.heap.size w w') : Bk w' bb base v N L :=
  ⟨h.blk.below hb h.blk.lt, h.above, h.row.kept (row := none) ⟨hb.os, hb.tape, hb.output, hb.size, fun k hk _ => hb.block k hk⟩ (by cases v.ownBlock <;> simp), h.apart⟩
theorem Bk.rows {w : World} {bb base : Nat} {v : Value} {N : Nat} {L : List Rq} (h : Bk w bb base v N L) : (v = .slice none 0 0 ∧ L = []) ∨ ∃ g cap, v = .slice (some ⟨g, 0, none⟩) L.length cap ∧ base ≤ g ∧ g ≠ bb ∧ RowAt w g cap L := by
  rcases h.row.2 with ⟨rfl, hn⟩ | ⟨g, cap, cur, rfl, hB, hg, hn, hm, hs, ht⟩
  · exact .inl ⟨rfl, List.length_eq_zero_iff.1 hn⟩
  · refine .inr ⟨g, cap, rfl, hB, fun e => h.apart (by rw [e]; rfl), cur, hg, hn, hm, hs, ht⟩

/-- What those give that are taken out. -/
structure TakeOut (p : Rq → Bool) (w : World) (bb base : Nat) (v : Value) (N : Nat) (L : List Rq) (e : Ending) (w' : World) : Prop where
  out : ∃ r, e = .returned r ∧ w'.ownsRow w.heap.size 45 6 r (L.filter p).length (flatE enc6 (L.filter p))
  book : ∃ v', Bk w' bb base v' N (L.filter (fun x => !p x)) ∧ v'.ownBlock = v.ownBlock
  far : Far bb v.ownBlock w w'

theorem info_of {t : TypeId} {z : Option Value} {s b : Nat} (h : (Tryd.prog.info? t).map (fun i => (i.zero, i.size, i.bytes)) = some (z, s, b)) : ∃ i, Tryd.prog.info? t = some i ∧ i.zero = z ∧ i.size = s ∧ i.bytes = b := by
  cases hi : Tryd.prog.info? t with
  | none => rw [hi] at h; cases h
  | some i =>
    rw [hi] at h
    simp only [Option.map_some, Option.some.injEq, Prod.mk.injEq] at h
    exact ⟨i, rfl, h.1, h.2.1, h.2.2⟩

theorem news_at (w : World) (cs : List Value) (ty : TypeId) : ∀ j u, cs[j]? = some u → (w.alloc (.cells cs.toArray ty)).cell? ((⟨w.heap.size, 0, none⟩ : Addr).add j) = some u := by
  intro j u hj
  rw [show (Addr.add ⟨w.heap.size, 0, none⟩ j : Addr) = ⟨w.heap.size, j, none⟩ by unfold Addr.add; split <;> simp_all, (blk_new w cs.toArray ty).get]
  simpa using hj

/-- An append of a request to a row of the call's own. -/
theorem push6 {i : TypeInfo} (hi : Tryd.prog.info? 45 = some i) (hz : i.zero = some (.agg #[.int .u64 0, .string ⟨#[]⟩, .bool false, .int .i64 0, .string ⟨#[]⟩, .string ⟨#[]⟩])) (hsize : i.size = 6) (hby : i.bytes = 72)
    {base : Nat} {W : World} {v : Value} {ps : List Rq} (hown : W.ownsRow base 45 6 v ps.length (flatE enc6 ps)) (x : Rq) (hn : ps.length ≤ 1000000) (hb : base ≤ W.heap.size)
    {ops : Array Oper} {rest : List Oper} {o : Oper} {a : Act} {Q : Exit → Act → World → Prop} (hgd : o.guard = none) (y z : Operand) (ho : o.op = .call { callee := .builtin .append, args := #[y, z], argTypes := #[38, 38] }) (hy : a.eval y = v) (bb : Nat) (hx : a.eval z = .slice (some ⟨bb, 0, none⟩) 1 1) (hbb : bb = W.heap.size)
    (h : ∀ v' w', w'.ownsRow base 45 6 v' (ps ++ [x]).length (flatE enc6 (ps ++ [x])) → (W.alloc (.cells (arr6 x) 45)).grownBy w' v.ownBlock → wpList Tryd.prog ops Q rest (a.put o.dst v') w') : wpList Tryd.prog ops Q (o :: rest) a (W.alloc (.cells (arr6 x) 45)) := by
  rw [hbb] at hx
  refine wpList_append_own _ hgd y z 38 ho base 45 i _ 6 72 Tryd.underlying38 hi hz hsize hby rfl (by decide) v ps.length (flatE enc6 ps) hy (hown.alloc _) ⟨W.heap.size, 0, none⟩ 1 1 (enc6 x) hx rfl (news_at W (enc6 x) _) (fun u hu => cells6 [x] u (by rw [flatE_one]; exact hu)) (by unfold maxLen; omega) (by omega) (by simp; omega) ?_
  intro v' w' hown' hgrow _
  refine h v' w' ?_ hgrow
  rw [flatE_append, flatE_one, List.length_append]
  exact hown'
/-- An append within the room of a row of requests that wait. -/
theorem put7 {i : TypeInfo} (hi : Tryd.prog.info? 77 = some i) (hs : i.size = 7) {W : World} {g cap : Nat} {D : List Rq} (hR : RowAt W g cap D) {j : Nat} (hj : j < D.length) (x : Rq)
    {ops : Array Oper} {rest : List Oper} {o : Oper} {a : Act} {Q : Exit → Act → World → Prop} (hgd : o.guard = none) (y z : Operand) (ho : o.op = .call { callee := .builtin .append, args := #[y, z], argTypes := #[72, 72] }) (hy : a.eval y = .slice (some ⟨g, 0, none⟩) j cap) (bb : Nat) (hx : a.eval z = .slice (some ⟨bb, 0, none⟩) 1 1) (hbb : bb = W.heap.size)
    (h : ∀ w', RowAt w' g cap (D.set j x) → (W.alloc (.cells (arr7 x) 77)).grownBy w' (some g) → wpList Tryd.prog ops Q rest (a.put o.dst (.slice (some ⟨g, 0, none⟩) (j + 1) cap)) w') : wpList Tryd.prog ops Q (o :: rest) a (W.alloc (.cells (arr7 x) 77)) := by
  rw [hbb] at hx
  have hR2 : RowAt (W.alloc (.cells (arr7 x) 77)) g cap D := hR.keep (heap_alloc_old W _ hR.lt)
  obtain ⟨w', hr, h2, h3⟩ := run_put hi hs hR2 hj x W.heap.size (news_at W (enc7 x) _) o.type
  refine wpList_plain hgd fun _ hK => ?_
  unfold Oper.wp execOp
  simp only [ho, resolve, invoke, builtin, Sem.run_bind, Sem.run_pure, Result.andThen_ok, List.map_toArray, List.map_cons, List.map_nil, hy, hx, hr]
  exact hK _ _ (h w' h2 h3)

theorem filt_next (p : Rq → Bool) (L : List Rq) (k : Nat) (h : k < L.length) : (L.take (k + 1)).filter p = (L.take k).filter p ++ (if p (at_ L k) then [at_ L k] else []) := by
  rw [List.take_add_one, List.filter_append, List.getElem?_eq_getElem h, at_get h]
  congr 1
  simp [List.filter_cons]
end Go.Proofs.YtelofhplpeeplaaDoor.wire
