/- A book in memory; what a call leaves alone. -/
import Derived.Test.YtelofhplpeeplaaDoorWrRow
import Derived.Deep.LoopGhost
set_option linter.unusedSimpArgs false
set_option linter.unusedVariables false
namespace Go.Proofs.YtelofhplpeeplaaDoor.wire
open Go.RowKit Go.Proofs.YtelofhplpeeplaaDoor.errs

/-- All blocks that stood, but two, are as they were. -/
structure Far (bb : Nat) (g : Option Nat) (w w' : World) : Prop where
  os : w'.os = w.os
  tape : w'.tape = w.tape
  output : w'.output = w.output
  size : w.heap.size ≤ w'.heap.size
  block : ∀ k, k < w.heap.size → k ≠ bb → g ≠ some k → w'.heap[k]? = w.heap[k]?
section
variable {bb : Nat} {g : Option Nat} {w w1 w2 : World}
theorem Far.refl (bb : Nat) (g : Option Nat) (w : World) : Far bb g w w := ⟨rfl, rfl, rfl, Nat.le_refl _, fun _ _ _ _ => rfl⟩
theorem Far.trans (h1 : Far bb g w w1) (h2 : Far bb g w1 w2) : Far bb g w w2 :=
  ⟨h2.os.trans h1.os, h2.tape.trans h1.tape, h2.output.trans h1.output, Nat.le_trans h1.size h2.size, fun k hk h3 h4 => (h2.block k (Nat.lt_of_lt_of_le hk h1.size) h3 h4).trans (h1.block k hk h3 h4)⟩
/-- The second one may know another row, if that is a new one. -/
theorem Far.then {g' : Option Nat} (h1 : Far bb g w w1) (h2 : Far bb g' w1 w2) (hg : g' = g ∨ ∀ q, g' = some q → w.heap.size ≤ q) : Far bb g w w2 :=
  ⟨h2.os.trans h1.os, h2.tape.trans h1.tape, h2.output.trans h1.output, Nat.le_trans h1.size h2.size, fun k hk h3 h4 => (h2.block k (Nat.lt_of_lt_of_le hk h1.size) h3 (by
    rcases hg with rfl | hg
    · exact h4
    · intro e; have := hg k e; omega)).trans (h1.block k hk h3 h4)⟩
theorem far_below {B : Nat} (h : Below B w w1) (hB : w.heap.size ≤ B) : Far bb g w w1 := ⟨h.os, h.tape, h.output, h.size, fun k hk _ _ => h.block k (Nat.lt_of_lt_of_le hk hB)⟩
theorem Far.below {B : Nat} (h : Far bb g w w1) (hw : B ≤ w.heap.size) (hb : B ≤ bb) (hg : ∀ q, g = some q → B ≤ q) : Below B w w1 :=
  ⟨h.os, h.tape, h.output, h.size, fun k hk => h.block k (by omega) (by omega) (fun e => by have := hg k e; omega)⟩
theorem Far.alloc (h : Far bb g w w1) (o : Obj) : Far bb g w (w1.alloc o) := h.trans (far_below ((Below.refl w1.heap.size w1).alloc (Nat.le_refl _) o) (Nat.le_refl _))
theorem Far.set (h : Far bb g w w1) (i : Nat) (u : Value) : Far bb g w (w1.setCell ⟨bb, i, none⟩ u) :=
  ⟨h.os, h.tape, h.output, by simpa using h.size, fun k hk h3 h4 => (heap_setCell_other w1 ⟨bb, i, none⟩ k u h3).trans (h.block k hk h3 h4)⟩
theorem Far.setNew (h : Far bb g w w1) (p : Addr) (hp : w.heap.size ≤ p.block) (u : Value) : Far bb g w (w1.setCell p u) :=
  ⟨h.os, h.tape, h.output, by simpa using h.size, fun k hk h3 h4 => (heap_setCell_other w1 p k u (by omega)).trans (h.block k hk h3 h4)⟩
theorem Far.grown {r : Option Nat} (h : Far bb g w w1) (hg : w1.grownBy w2 r) (hr : r = g ∨ ∀ q, r = some q → w.heap.size ≤ q) : Far bb g w w2 :=
  ⟨hg.os.trans h.os, hg.tape.trans h.tape, hg.output.trans h.output, Nat.le_trans h.size hg.size, fun k hk h3 h4 => (hg.block k (Nat.lt_of_lt_of_le hk h.size) (by
    rcases hr with rfl | hr
    · exact fun e => h4 e.symm
    · intro e; have := hr k e.symm; omega)).trans (h.block k hk h3 h4)⟩
theorem Far.blk {q : Nat} {cs : Array Value} {ty : TypeId} (h : Far bb g w w1) (hq : Blk w q cs ty) (h1 : q ≠ bb) (h2 : g ≠ some q) : Blk w1 q cs ty := (h.block q hq.lt h1 h2).trans hq
theorem Far.drawN (h : Far bb g w w1) (n : Nat) : Far bb g w (w1.drewN n) := ⟨h.os, h.tape, h.output, h.size, h.block⟩
end

/-- A book: how many were asked for, and those that wait. -/
structure Bk (w : World) (bb base : Nat) (v : Value) (N : Nat) (L : List Rq) : Prop where
  blk : Blk w bb #[.int .u64 (N : Int), v] 74
  above : base ≤ bb
  row : w.ownsRow base 77 7 v L.length (flatE enc7 L)
  apart : v.ownBlock ≠ some bb
theorem Bk.kept {w w' : World} {bb base : Nat} {v : Value} {N : Nat} {L : List Rq} (h : Bk w bb base v N L) (hb : Below w.heap.size w w') : Bk w' bb base v N L :=
  ⟨h.blk.below hb h.blk.lt, h.above, h.row.kept (row := none) ⟨hb.os, hb.tape, hb.output, hb.size, fun k hk _ => hb.block k hk⟩ (by cases v.ownBlock <;> simp), h.apart⟩
theorem Bk.rows {w : World} {bb base : Nat} {v : Value} {N : Nat} {L : List Rq} (h : Bk w bb base v N L) : (v = .slice none 0 0 ∧ L = []) ∨ ∃ g cap, v = .slice (some ⟨g, 0, none⟩) L.length cap ∧ base ≤ g ∧ g ≠ bb ∧ RowAt w g cap L := by
  rcases h.row.2 with ⟨rfl, hn⟩ | ⟨g, cap, cur, rfl, hB, hg, hn, hm, hs, ht⟩
  · exact .inl ⟨rfl, List.length_eq_zero_iff.1 hn⟩
  · refine .inr ⟨g, cap, rfl, hB, fun e => h.apart (by rw [e]; rfl), cur, hg, hn, hm, hs, ht⟩

/-- What those give that are taken out. -/
structure TakeOut (p : Rq → Bool) (w : World) (bb base : Nat) (v : Value) (N : Nat) (L : List Rq) (e : Ending) (w' : World) : Prop where
  out : ∃ r, e = .returned r ∧ w'.ownsRow w.heap.size 45 6 r (L.filter p).length (flatE enc6 (L.filter p))
  book : ∃ v', Bk w' bb base v' N (L.filter (fun x => !p x)) ∧ v'.ownBlock = v.ownBlock
  far : Far bb v.ownBlock w w'

theorem info_of {t : TypeId} {z : Option Value} {s b : Nat} (h : (Tryd.prog.info? t).map (fun i => (i.zero, i.size, i.bytes)) = some (z, s, b)) : ∃ i, Tryd.prog.info? t = some i ∧ i.zero = z ∧ i.size = s ∧ i.bytes = b := by
  cases hi : Tryd.prog.info? t with
  | none => rw [hi] at h; cases h
  | some i =>
    rw [hi] at h
    simp only [Option.map_some, Option.some.injEq, Prod.mk.injEq] at h
    exact ⟨i, rfl, h.1, h.2.1, h.2.2⟩

theorem news_at (w : World) (cs : List Value) (ty : TypeId) : ∀ j u, cs[j]? = some u → (w.alloc (.cells cs.toArray ty)).cell? ((⟨w.heap.size, 0, none⟩ : Addr).add j) = some u := by
  intro j u hj
  rw [show (Addr.add ⟨w.heap.size, 0, none⟩ j : Addr) = ⟨w.heap.size, j, none⟩ by unfold Addr.add; split <;> simp_all, (blk_new w cs.toArray ty).get]
  simpa using hj

/-- An append of a request to a row of the call's own. -/
theorem push6 {i : TypeInfo} (hi : Tryd.prog.info? 45 = some i) (hz : i.zero = some (.agg #[.int .u64 0, .string ⟨#[]⟩, .bool false, .int .i64 0, .string ⟨#[]⟩, .string ⟨#[]⟩])) (hsize : i.size = 6) (hby : i.bytes = 72)
    {base : Nat} {W : World} {v : Value} {ps : List Rq} (hown : W.ownsRow base 45 6 v ps.length (flatE enc6 ps)) (x : Rq) (hn : ps.length ≤ 1000000) (hb : base ≤ W.heap.size)
    {ops : Array Oper} {rest : List Oper} {o : Oper} {a : Act} {Q : Exit → Act → World → Prop} (hgd : o.guard = none) (y z : Operand) (ho : o.op = .call { callee := .builtin .append, args := #[y, z], argTypes := #[38, 38] }) (hy : a.eval y = v) (bb : Nat) (hx : a.eval z = .slice (some ⟨bb, 0, none⟩) 1 1) (hbb : bb = W.heap.size)
    (h : ∀ v' w', w'.ownsRow base 45 6 v' (ps ++ [x]).length (flatE enc6 (ps ++ [x])) → (W.alloc (.cells (arr6 x) 45)).grownBy w' v.ownBlock → wpList Tryd.prog ops Q rest (a.put o.dst v') w') : wpList Tryd.prog ops Q (o :: rest) a (W.alloc (.cells (arr6 x) 45)) := by
  rw [hbb] at hx
  refine wpList_append_own _ hgd y z 38 ho base 45 i _ 6 72 Tryd.underlying38 hi hz hsize hby rfl (by decide) v ps.length (flatE enc6 ps) hy (hown.alloc _) ⟨W.heap.size, 0, none⟩ 1 1 (enc6 x) hx rfl (news_at W (enc6 x) _) (fun u hu => cells6 [x] u (by rw [flatE_one]; exact hu)) (by unfold maxLen; omega) (by omega) (by simp; omega) ?_
  intro v' w' hown' hgrow _
  refine h v' w' ?_ hgrow
  rw [flatE_append, flatE_one, List.length_append]
  exact hown'
/-- An append within the room of a row of requests that wait. -/
theorem put7 {i : TypeInfo} (hi : Tryd.prog.info? 77 = some i) (hs : i.size = 7) {W : World} {g cap : Nat} {D : List Rq} (hR : RowAt W g cap D) {j : Nat} (hj : j < D.length) (x : Rq)
    {ops : Array Oper} {rest : List Oper} {o : Oper} {a : Act} {Q : Exit → Act → World → Prop} (hgd : o.guard = none) (y z : Operand) (ho : o.op = .call { callee := .builtin .append, args := #[y, z], argTypes := #[72, 72] }) (hy : a.eval y = .slice (some ⟨g, 0, none⟩) j cap) (bb : Nat) (hx : a.eval z = .slice (some ⟨bb, 0, none⟩) 1 1) (hbb : bb = W.heap.size)
    (h : ∀ w', RowAt w' g cap (D.set j x) → (W.alloc (.cells (arr7 x) 77)).grownBy w' (some g) → wpList Tryd.prog ops Q rest (a.put o.dst (.slice (some ⟨g, 0, none⟩) (j + 1) cap)) w') : wpList Tryd.prog ops Q (o :: rest) a (W.alloc (.cells (arr7 x) 77)) := by
  rw [hbb] at hx
  have hR2 : RowAt (W.alloc (.cells (arr7 x) 77)) g cap D := hR.keep (heap_alloc_old W _ hR.lt)
  obtain ⟨w', hr, h2, h3⟩ := run_put hi hs hR2 hj x W.heap.size (news_at W (enc7 x) _) o.type
  refine wpList_plain hgd fun _ hK => ?_
  unfold Oper.wp execOp
  simp only [ho, resolve, invoke, builtin, Sem.run_bind, Sem.run_pure, Result.andThen_ok, List.map_toArray, List.map_cons, List.map_nil, hy, hx, hr]
  exact hK _ _ (h w' h2 h3)

theorem filt_next (p : Rq → Bool) (L : List Rq) (k : Nat) (h : k < L.length) : (L.take (k + 1)).filter p = (L.take k).filter p ++ (if p (at_ L k) then [at_ L k] else []) := by
  rw [List.take_add_one, List.filter_append, List.getElem?_eq_getElem h, at_get h]
  congr 1
  simp [List.filter_cons]
end Go.Proofs.YtelofhplpeeplaaDoor.wire
