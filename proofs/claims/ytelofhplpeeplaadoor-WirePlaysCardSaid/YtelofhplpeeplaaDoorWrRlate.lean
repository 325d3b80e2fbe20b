/- The document's book in memory. -/
import Derived.Test.YtelofhplpeeplaaDoorWrGood
import Derived.Deep.AppendLies
import Derived.Deep.RegionLaw
import Derived.Deep.DeepCutAuto
import Derived.IntWalk
import Derived.Deep.LoopGhost
import Derived.Maps.AppendAt
set_option linter.unusedSimpArgs false
set_option linter.unusedVariables false
namespace Go.Proofs.YtelofhplpeeplaaDoor.wire
open Go.RowKit Go.Proofs.YtelofhplpeeplaaDoor.errs

/-- All blocks that stood, but those of a set, are as they were. -/
structure But (S : Nat → Prop) (w w' : World) : Prop where
  os : w'.os = w.os
  tape : w'.tape = w.tape
  output : w'.output = w.output
  size : w.heap.size ≤ w'.heap.size
  block : ∀ k, k < w.heap.size → ¬ S k → w'.heap[k]? = w.heap[k]?
section
variable {S T : Nat → Prop} {w w1 w2 : World}
theorem But.refl (S : Nat → Prop) (w : World) : But S w w := ⟨rfl, rfl, rfl, Nat.le_refl _, fun _ _ _ => rfl⟩
/-- The second set may hold new blocks. -/
theorem But.then (h1 : But S w w1) (h2 : But T w1 w2) (hT : ∀ k, T k → S k ∨ w.heap.size ≤ k) : But S w w2 :=
  ⟨h2.os.trans h1.os, h2.tape.trans h1.tape, h2.output.trans h1.output, Nat.le_trans h1.size h2.size, fun k hk hs => (h2.block k (Nat.lt_of_lt_of_le hk h1.size) (fun ht => by
    rcases hT k ht with h | h
    · exact hs h
    · omega)).trans (h1.block k hk hs)⟩
theorem but_below {B : Nat} (h : Below B w w1) (hB : w.heap.size ≤ B) : But S w w1 := ⟨h.os, h.tape, h.output, h.size, fun k hk _ => h.block k (Nat.lt_of_lt_of_le hk hB)⟩
theorem But.on {B : Nat} (h : But S w w1) (hb : Below B w1 w2) (hB : w1.heap.size ≤ B) : But S w w2 := h.then (but_below (S := S) hb hB) (fun k hk => .inl hk)
theorem But.set (h : But S w w1) (b i : Nat) (u : Value) (hb : S b ∨ w.heap.size ≤ b) : But S w (w1.setCell ⟨b, i, none⟩ u) :=
  ⟨h.os, h.tape, h.output, by simpa using h.size, fun k hk hs => (heap_setCell_other w1 ⟨b, i, none⟩ k u (by
    intro e
    have e : k = b := e
    subst e
    rcases hb with hb | hb
    · exact hs hb
    · omega)).trans (h.block k hk hs)⟩
theorem But.grown {r : Option Nat} (h : But S w w1) (hg : w1.grownBy w2 r) (hr : ∀ q, r = some q → S q ∨ w.heap.size ≤ q) : But S w w2 :=
  ⟨hg.os.trans h.os, hg.tape.trans h.tape, hg.output.trans h.output, Nat.le_trans h.size hg.size, fun k hk hs => (hg.block k (Nat.lt_of_lt_of_le hk h.size) (fun e => by
    rcases hr k e.symm with h | h
    · exact hs h
    · omega)).trans (h.block k hk hs)⟩
theorem But.blk {q : Nat} {cs : Array Value} {ty : TypeId} (h : But S w w1) (hq : Blk w q cs ty) (h1 : ¬ S q) : Blk w1 q cs ty := (h.block q hq.lt h1).trans hq
theorem But.below {B : Nat} (h : But S w w1) (hw : B ≤ w.heap.size) (hS : ∀ k, S k → B ≤ k) : Below B w w1 :=
  ⟨h.os, h.tape, h.output, h.size, fun k hk => h.block k (by omega) (fun hs => by have := hS k hs; omega)⟩
theorem Far.but {bb : Nat} {g : Option Nat} (h : Far bb g w w1) : But (fun k => k = bb ∨ g = some k) w w1 :=
  ⟨h.os, h.tape, h.output, h.size, fun k hk hs => h.block k hk (fun e => hs (.inl e)) (fun e => hs (.inr e))⟩
end

/-- Since when they wait. -/
def sinces (L : List Rq) : List Value := L.map fun x => .int .u64 (x.since : Int)
theorem sinces_len (L : List Rq) : (sinces L).length = L.length := List.length_map _
/-- The document's book: those that wait, since when, and how many were asked for. -/
structure Rb (w : World) (mb base : Nat) (vl vs : Value) (N : Nat) (L : List Rq) : Prop where
  blk : Blk w mb #[vl, vs, .int .u64 (N : Int)] 41
  above : base ≤ mb
  rows : w.ownsRow base 45 6 vl L.length (flatE enc6 L)
  ticks : w.ownsRow base 22 1 vs L.length (sinces L)
  apart : vl.ownBlock ≠ some mb ∧ vs.ownBlock ≠ some mb ∧ ∀ q, vl.ownBlock = some q → vs.ownBlock ≠ some q
/-- Its blocks. -/
def Its (mb : Nat) (vl vs : Value) (k : Nat) : Prop := k = mb ∨ vl.ownBlock = some k ∨ vs.ownBlock = some k
theorem Rb.kept {S : Nat → Prop} {w w' : World} {mb base : Nat} {vl vs : Value} {N : Nat} {L : List Rq} (h : Rb w mb base vl vs N L) (hb : But S w w') (hS : ∀ k, Its mb vl vs k → ¬ S k) : Rb w' mb base vl vs N L := by
  refine ⟨hb.blk h.blk (hS _ (.inl rfl)), h.above, ?_, ?_, h.apart⟩
  · refine ⟨h.rows.1, ?_⟩
    rcases h.rows.2 with h0 | ⟨g, cap, cur, rfl, hB, hg, r⟩
    · exact .inl h0
    · exact .inr ⟨g, cap, cur, rfl, hB, hb.blk hg (hS g (.inr (.inl rfl))), r⟩
  · refine ⟨h.ticks.1, ?_⟩
    rcases h.ticks.2 with h0 | ⟨g, cap, cur, rfl, hB, hg, r⟩
    · exact .inl h0
    · exact .inr ⟨g, cap, cur, rfl, hB, hb.blk hg (hS g (.inr (.inr rfl))), r⟩
theorem Rb.on {w w' : World} {mb base : Nat} {vl vs : Value} {N : Nat} {L : List Rq} (h : Rb w mb base vl vs N L) (hb : Below w.heap.size w w') : Rb w' mb base vl vs N L :=
  h.kept (but_below (S := fun _ => False) hb (Nat.le_refl _)) (fun _ _ h => h)
theorem Rb.lt {w : World} {mb base : Nat} {vl vs : Value} {N : Nat} {L : List Rq} (h : Rb w mb base vl vs N L) (k : Nat) (hk : Its mb vl vs k) : base ≤ k ∧ k < w.heap.size := by
  rcases hk with rfl | hk | hk
  · exact ⟨h.above, h.blk.lt⟩
  · exact h.rows.lt k hk
  · exact h.ticks.lt k hk
theorem own_form {w : World} {base : Nat} {e : TypeId} {k : Nat} {v : Value} {n : Nat} {xs : List Value} (h : w.ownsRow base e k v n xs) : ∃ a cap, v = .slice a n cap ∧ n ≤ cap ∧ cap ≤ 9223372036854775807 ∧ (0 < n → ∃ g, a = some ⟨g, 0, none⟩ ∧ ∀ j, j < n * k → w.cell? ⟨g, j, none⟩ = xs[j]?) := by
  rcases h.2 with ⟨rfl, rfl⟩ | ⟨g, cap, cur, rfl, hB, hg, hn, hm, hs, ht⟩
  · exact ⟨none, 0, rfl, Nat.le_refl _, by omega, fun h => absurd h (Nat.not_lt_zero _)⟩
  · exact ⟨_, cap, rfl, hn, by unfold maxLen at hm; omega, fun _ => ⟨g, rfl, fun j hj => h.cellAt j hj⟩⟩
theorem sinces_at (L : List Rq) (j : Nat) (h : j < L.length) : (sinces L)[j]? = some (.int .u64 ((at_ L j).since : Int)) := by
  unfold sinces
  rw [List.getElem?_map, List.getElem?_eq_getElem h, at_get h]; rfl
theorem info1 : (Tryd.prog.info? 22).map (fun i => (i.zero, i.size, i.bytes)) = some (some (.int .u64 0), 1, 8) := by kernel_rfl
theorem rb_new (w : World) : Rb (w.alloc (.cells #[.slice none 0 0, .slice none 0 0, .int .u64 0] 41)) w.heap.size w.heap.size (.slice none 0 0) (.slice none 0 0) 0 [] :=
  ⟨blk_new w _ _, Nat.le_refl _, World.ownsRow_nil _ _ _ _, World.ownsRow_nil _ _ _ _, ⟨(fun e => by cases e), (fun e => by cases e), (fun q e => by cases e)⟩⟩
end Go.Proofs.YtelofhplpeeplaaDoor.wire
/- The document's drop: one of those that wait is left out. -/
set_option linter.unusedSimpArgs false
set_option linter.unusedVariables false
namespace Go.Proofs.YtelofhplpeeplaaDoor.wire
open Go.RowKit Go.Proofs.YtelofhplpeeplaaDoor.errs

/-- An append to a row of the call's own, as a step of a region that draws its order. -/
theorem step_own {P : Program} {w : World} {ops : Array Oper} {o : Oper} {a : Act} {K : Act → World → Prop} {Q : Exit → Act → World → Prop} {E : Prop} (hgd : o.guard = none) (s x : Operand) (t : TypeId)
    (ho : o.op = .call { callee := .builtin .append, args := #[s, x], argTypes := #[t, t] })
    (base : Nat) (e : TypeId) (i : TypeInfo) (z : Value) (size bytes : Nat) (ht : P.underlying t = some (.slice e)) (hi : P.info? e = some i) (hz : i.zero = some z)
    (hsize : i.size = size) (hby : i.bytes = bytes) (hzs : z.cells.size = size) (hsz : 0 < size)
    (v : Value) (n : Nat) (xs : List Value) (hs : a.eval s = v) (hown : w.ownsRow base e size v n xs)
    (ad : Addr) (m c : Nat) (news : List Value) (hx : a.eval x = .slice (some ad) m c) (hl : news.length = m * size) (hnews : ∀ j u, news[j]? = some u → w.cell? (ad.add j) = some u) (h1 : ∀ u ∈ news, u.oneCell' = true)
    (h63 : n + m ≤ maxLen) (hbytes : (n + m) * bytes ≤ 140737488355328) (hbase : base ≤ w.heap.size)
    (h : ∀ v' w', w'.ownsRow base e size v' (n + m) (xs ++ news) → w.grownBy w' v.ownBlock → (v'.ownBlock = v.ownBlock ∨ v'.ownBlock = some w.heap.size) → K (a.put o.dst v') w') :
    if Region.wanted o (yielded ops a.tmps) = true then Oper.wp P o a w K Q else E := by
  have hw : Region.wanted o (yielded ops a.tmps) = true := by simp [Region.wanted, hgd]
  rw [if_pos hw]
  obtain ⟨v', w', hr, h2, h3, _, h5⟩ := run_append_own_at (P := P) w base t o.type e i z size bytes ht hi hz hsize hby hzs hsz v n xs hown ad m c news hl hnews h1 h63 hbytes hbase
  unfold Oper.wp execOp
  simp only [ho, resolve, invoke, builtin, Sem.run_bind, Sem.run_pure, Result.andThen_ok, List.map_toArray, List.map_cons, List.map_nil, hs, hx, hr]
  exact h v' w' h2 h3 h5

/-- A row without one of its elements. -/
theorem flat_erase (L : List Rq) (i : Nat) : flatE enc6 (L.take i) ++ flatE enc6 (L.drop (i + 1)) = flatE enc6 (L.eraseIdx i) := by
  rw [← flatE_append, List.eraseIdx_eq_take_drop_succ]
theorem sinces_erase (L : List Rq) (i : Nat) : sinces (L.take i) ++ sinces (L.drop (i + 1)) = sinces (L.eraseIdx i) := by
  unfold sinces
  rw [← List.map_append, List.eraseIdx_eq_take_drop_succ]
theorem add_lit (g o j : Nat) : (Addr.add ⟨g, o, none⟩ j : Addr) = ⟨g, o + j, none⟩ := by unfold Addr.add; split <;> simp_all
/-- Where the elements behind one begin. -/
theorem behind_cells {w : World} {g n cap i k : Nat} {xs : List Value} (hc : ∀ j, j < n * k → w.cell? ⟨g, j, none⟩ = xs[j]?) (hn : n ≤ cap) (hl : xs.length = n * k) (hi : i < n) (hk : 0 < k) :
    ∃ A : Addr, (if cap = i + 1 then some (⟨g, 0, none⟩ : Addr) else some ⟨g, (i + 1) * k, none⟩) = some A ∧ ∀ j u, (xs.drop ((i + 1) * k))[j]? = some u → w.cell? (A.add j) = some u := by
  by_cases h : cap = i + 1
  · refine ⟨⟨g, 0, none⟩, by rw [if_pos h], fun j u hu => ?_⟩
    have hni : n = i + 1 := by omega
    rw [List.drop_of_length_le (by rw [hl, hni]; exact Nat.le_refl _)] at hu
    cases hu
  · refine ⟨⟨g, (i + 1) * k, none⟩, by rw [if_neg h], fun j u hu => ?_⟩
    rw [List.getElem?_drop] at hu
    have hj : (i + 1) * k + j < n * k := by
      have := (List.getElem?_eq_some_iff.1 hu).1
      rwa [hl] at this
    rw [add_lit, hc _ hj]
    exact hu

theorem grown_one {w w3 : World} {e : TypeId} {v1 : Value} (h : ((w.alloc (.cells #[] e)).drew).grownBy w3 (Value.slice (some ⟨w.heap.size, 0, none⟩) 0 0).ownBlock) (hat : v1.ownBlock = (Value.slice (some ⟨w.heap.size, 0, none⟩) 0 0).ownBlock ∨ v1.ownBlock = some ((w.alloc (.cells #[] e)).drew).heap.size) : Below w.heap.size w w3 ∧ ∀ q, v1.ownBlock = some q → w.heap.size ≤ q := by
  refine ⟨Below.grown (Below.drew ((Below.refl _ w).alloc (Nat.le_refl _) _)) h (by show w.heap.size ≤ (w.alloc (.cells #[] e)).heap.size; simp) (fun q hq => by have hq : w.heap.size = q := Option.some.inj hq; omega), fun q hq => ?_⟩
  rcases hat with e | e
  · rw [e] at hq
    have hq : w.heap.size = q := Option.some.inj hq
    omega
  · rw [e] at hq
    have hq : (w.alloc (.cells #[] _)).heap.size = q := Option.some.inj hq
    simp at hq
    omega
theorem grown_two {w w3 w4 : World} {v1 v2 : Value} (h3 : Below w.heap.size w w3 ∧ ∀ q, v1.ownBlock = some q → w.heap.size ≤ q) (h : w3.grownBy w4 v1.ownBlock) (hat : v2.ownBlock = v1.ownBlock ∨ v2.ownBlock = some w3.heap.size) : Below w.heap.size w w4 ∧ ∀ q, v2.ownBlock = some q → w.heap.size ≤ q := by
  refine ⟨h3.1.grown h h3.1.size (fun q hq => h3.2 q hq), fun q hq => ?_⟩
  rcases hat with e | e
  · exact h3.2 q (e ▸ hq)
  · rw [e] at hq
    have := Option.some.inj hq
    have := h3.1.size
    omega
theorem own_base {w : World} {B B' : Nat} {e : TypeId} {k : Nat} {r : Value} {n : Nat} {xs : List Value} (h : w.ownsRow B' e k r n xs) (hB : B ≤ B') : w.ownsRow B e k r n xs := by
  refine ⟨h.1, ?_⟩
  rcases h.2 with h | ⟨g, cap, cur, hv, hg, h⟩
  · exact .inl h
  · exact .inr ⟨g, cap, cur, hv, Nat.le_trans hB hg, h⟩
theorem erase_len {α : Type} (L : List α) (i : Nat) (hi : i < L.length) : 0 + i + (L.length - (i + 1)) = (L.eraseIdx i).length := by
  rw [List.length_eraseIdx, if_pos hi]; omega

set_option maxRecDepth 100000 in
set_option maxHeartbeats 4000000 in
theorem rdrop_any (mb base i : Nat) (vl vs : Value) (N : Nat) (L : List Rq) (hi : i < L.length) (hn : L.length ≤ 100000) (w : World) (hB : Rb w mb base vl vs N L) :
    Calls Tryd.prog 33 #[.pointer (some ⟨mb, 0, none⟩), .int .i64 (i : Int)] w fun e w' => e = .returned (.tuple #[]) ∧ ∃ vl' vs', Rb w' mb base vl' vs' N (L.eraseIdx i) ∧ But (fun k => k = mb) w w' ∧ ∀ k, Its mb vl' vs' k → k = mb ∨ w.heap.size ≤ k := by
  obtain ⟨i6, hi6, hz6, hs6, hy6⟩ := info_of info6
  obtain ⟨i1, hi1, hz1, hs1, hy1⟩ := info_of info1
  obtain ⟨a, cap, rfl, r1, r2, r3⟩ := own_form hB.rows
  obtain ⟨g, rfl, hc⟩ := r3 (by omega)
  have c0 := hB.blk.get 0
  have f0 := hB.blk.frz 0
  simp only [List.getElem?_toArray, List.getElem?_cons_zero, List.getElem?_cons_succ] at c0
  obtain ⟨A, hA, hA2⟩ := behind_cells (k := 6) hc r1 (flatE_len len6 L) hi (by omega)
  obtain ⟨n, hLn⟩ : ∃ n, Hid (L.length = n) := ⟨_, rfl⟩
  rw [hLn.out] at hi hn r1 c0
  have x0 : (0 : Int) ≤ (i : Int) := by omega
  have x1 : (i : Int) ≤ (n : Int) := by omega
  have x2 : (i : Int) ≤ (cap : Int) := by omega
  have x3 : (i : Int) + 1 ≤ (n : Int) := by omega
  have x4 : (i : Int) + 1 ≤ (cap : Int) := by omega
  have x5 : (0 : Int) ≤ (i : Int) + 1 := by omega
  have x6 : IntKind.i64.wrap ((i : Int) + 1) = (i : Int) + 1 := IntWalk.i64_in _ (by omega)
  have x7 : ((i : Int) + 1).toNat = i + 1 := by omega
  have lm := hB.blk.lt
  go_enter Tryd.func33, Tryd.ntmps33
  have O1 : Aside (((w.alloc (.cells #[] 45)).drew).ownsRow w.heap.size 45 6 (.slice (some ⟨w.heap.size, 0, none⟩) 0 0) 0 []) := World.ownsRow_lit (base := w.heap.size) (e := 45) (size := 6) w #[] 0 (Nat.le_refl _) (by unfold maxLen; omega) rfl
  have L1 : Aside ((flatE enc6 (L.take i)).length = i * 6 ∧ (flatE enc6 (L.drop (i + 1))).length = (n - (i + 1)) * 6) := by
    have := hLn.out
    exact ⟨by rw [flatE_len len6, List.length_take]; congr 1; omega, by rw [flatE_len len6, List.length_drop]; congr 1; omega⟩
  have N1 : Aside (∀ j u, (flatE enc6 (L.take i))[j]? = some u → ((w.alloc (.cells #[] 45)).drew).cell? ((⟨g, 0, none⟩ : Addr).add j) = some u) := fun j u hu => by
    have hj : j < i * 6 := by rw [← L1.out.1]; exact (List.getElem?_eq_some_iff.1 hu).1
    rw [← flatE_take len6, List.getElem?_take, if_pos hj] at hu
    have h0 := (hc j (by have := hLn.out; omega)).trans hu
    rw [add_lit, Nat.zero_add]
    exact (((Below.refl w.heap.size w).alloc (Nat.le_refl _) (.cells #[] 45)).cell (p := ⟨g, j, none⟩) (lt_of_cell h0)).trans h0
  have N2 : Aside (∀ w3, Below w.heap.size w w3 → ∀ j u, (flatE enc6 (L.drop (i + 1)))[j]? = some u → w3.cell? (A.add j) = some u) := fun w3 hb j u hu => by
    rw [← flatE_drop len6] at hu
    have h0 := hA2 j u hu
    exact (hb.cell (lt_of_cell h0)).trans h0
  have HB : Aside (Rb w mb base (.slice (some ⟨g, 0, none⟩) L.length cap) vs N L) := hB
  have hlim : n ≤ 100000 := hn
  obtain ⟨ln, E0⟩ : ∃ ln, Aside (0 + i + (n - (i + 1)) = ln ∧ (L.eraseIdx i).length = ln) := ⟨_, rfl, by rw [← hLn.out, erase_len L i (by rw [hLn.out]; exact hi)]⟩
  clear hB hA2 hc
  go_upto_region 0 with fail
  go_cut [] (fun wx => ∃ v2, Blk wx mb #[v2, vs, .int .u64 (N : Int)] 41 ∧ wx.ownsRow w.heap.size 45 6 v2 (L.eraseIdx i).length (flatE enc6 (L.eraseIdx i)) ∧ But (fun k => k = mb) w wx)
  case first =>
    go_region_law (first
      | (refine step_own (by rfl) _ _ 38 (by rfl) w.heap.size 45 i6 _ 6 72 Tryd.underlying38 hi6 hz6 hs6 hy6 (by rfl) (by decide) (.slice (some ⟨w.heap.size, 0, none⟩) 0 0) 0 [] (by rfl) O1.out ⟨g, 0, none⟩ i cap (flatE enc6 (L.take i)) (by rfl) L1.out.1 N1.out (cells6 _) (by unfold maxLen; omega) (by omega) (by show w.heap.size ≤ (w.alloc (.cells #[] 45)).heap.size; simp) ?_; intro v1 w3 hown hgrow hat; have F3 : Aside (Below w.heap.size w w3 ∧ ∀ q, v1.ownBlock = some q → w.heap.size ≤ q) := grown_one hgrow hat; have c3 := (F3.out.1.cell (p := ⟨mb, 0, none⟩) lm).trans c0; have O3 := Lib.hid hown; clear hown hgrow hat)
      | (refine step_own (by rfl) _ _ 38 (by rfl) w.heap.size 45 i6 _ 6 72 Tryd.underlying38 hi6 hz6 hs6 hy6 (by rfl) (by decide) v1 (0 + i) ([] ++ flatE enc6 (L.take i)) (by rfl) O3.out A (n - (i + 1)) (cap - (i + 1)) (flatE enc6 (L.drop (i + 1))) (by rfl) L1.out.2 (N2.out w3 F3.out.1) (cells6 _) (by unfold maxLen; omega) (by omega) F3.out.1.size ?_; intro v2 w4 hown hgrow hat; have F4 : Aside (Below w.heap.size w w4 ∧ ∀ q, v2.ownBlock = some q → w.heap.size ≤ q) := grown_two F3.out hgrow hat; have c4 := (F4.out.1.cell (p := ⟨mb, 0, none⟩) lm).trans c0; have f4 := (F4.out.1.frozen (p := ⟨mb, 0, none⟩) lm).trans f0; rw [E0.out.1] at hown; obtain ⟨va, vc, hv, -⟩ := own_form hown; subst hv; have O4 := Lib.hid hown; clear hown hgrow hat))
    all_goals
      go_wp2_with fail
      go_meet
      refine ⟨.slice va ln vc, (HB.out.blk.below F4.out.1 HB.out.blk.lt).set 0 _, ?_, ?_⟩
      · have h := O4.out
        rw [List.nil_append, flat_erase] at h
        rw [E0.out.2]
        exact h.kept (grown_set w4 mb 0 _) (by
          cases hv : (Value.slice va ln vc).ownBlock with
          | none => exact .inl rfl
          | some q => exact .inr (fun e => by have := F4.out.2 q hv; have := Option.some.inj e; omega))
      · exact (but_below F4.out.1 (Nat.le_refl _)).set mb 0 _ (.inl rfl)
  case rest =>
    obtain ⟨v2, hb2, hr2, hbut⟩ := hcut
    have HC2 : Aside (Blk wc mb #[v2, vs, .int .u64 (N : Int)] 41 ∧ wc.ownsRow w.heap.size 45 6 v2 (L.eraseIdx i).length (flatE enc6 (L.eraseIdx i)) ∧ But (fun k => k = mb) w wc) := ⟨hb2, hr2, hbut⟩
    have T := HB.out.kept (S := fun k => k = mb ∧ False) (w' := w) ⟨rfl, rfl, rfl, Nat.le_refl _, fun _ _ _ => rfl⟩ (fun k _ h => h.2)
    have T2 : wc.ownsRow base 22 1 vs L.length (sinces L) := by
      have h := HB.out.ticks
      refine ⟨h.1, ?_⟩
      rcases h.2 with h0 | ⟨q, cap, cur, hv, hB, hg, r⟩
      · exact .inl h0
      · exact .inr ⟨q, cap, cur, hv, hB, hbut.blk hg (fun e => HB.out.apart.2.1 (by rw [hv, ← e]; rfl)), r⟩
    obtain ⟨a', cap', hv', s1, s2, s3⟩ := own_form T2
    obtain ⟨g', ha', hc'⟩ := s3 (by have := hLn.out; omega)
    subst ha'
    subst hv'
    have c1 := hb2.get 1
    have f1 := hb2.frz 1
    simp only [List.getElem?_toArray, List.getElem?_cons_zero, List.getElem?_cons_succ] at c1
    obtain ⟨A', hA', hA3⟩ := behind_cells (k := 1) (i := i) hc' s1 (by rw [sinces_len, Nat.mul_one]) (by rw [hLn.out]; exact hi) (by omega)
    have lm' := hb2.lt
    rw [hLn.out] at c1 s1
    have x2' : (i : Int) ≤ (cap' : Int) := by omega
    have x4' : (i : Int) + 1 ≤ (cap' : Int) := by omega
    have hA' : (if cap' = i + 1 then some (⟨g', 0, none⟩ : Addr) else some ⟨g', i + 1, none⟩) = some A' := by rw [Nat.mul_one] at hA'; exact hA'
    have O5 : Aside (((wc.alloc (.cells #[] 22)).drew).ownsRow wc.heap.size 22 1 (.slice (some ⟨wc.heap.size, 0, none⟩) 0 0) 0 []) := World.ownsRow_lit (base := wc.heap.size) (e := 22) (size := 1) wc #[] 0 (Nat.le_refl _) (by unfold maxLen; omega) rfl
    have L5 : Aside ((sinces (L.take i)).length = i * 1 ∧ (sinces (L.drop (i + 1))).length = (n - (i + 1)) * 1) := by
      have := hLn.out
      exact ⟨by rw [sinces_len, List.length_take]; omega, by rw [sinces_len, List.length_drop]; omega⟩
    have N5 : Aside (∀ j u, (sinces (L.take i))[j]? = some u → ((wc.alloc (.cells #[] 22)).drew).cell? ((⟨g', 0, none⟩ : Addr).add j) = some u) := fun j u hu => by
      have hj : j < i * 1 := by rw [← L5.out.1]; exact (List.getElem?_eq_some_iff.1 hu).1
      have hu2 : (sinces L)[j]? = some u := by
        rw [show sinces (L.take i) = (sinces L).take i by unfold sinces; rw [List.map_take], List.getElem?_take, if_pos (by omega)] at hu
        exact hu
      have h0 := (hc' j (by have := hLn.out; omega)).trans hu2
      rw [add_lit, Nat.zero_add]
      exact (((Below.refl wc.heap.size wc).alloc (Nat.le_refl _) (.cells #[] 22)).cell (p := ⟨g', j, none⟩) (lt_of_cell h0)).trans h0
    have N6 : Aside (∀ w3, Below wc.heap.size wc w3 → ∀ j u, (sinces (L.drop (i + 1)))[j]? = some u → w3.cell? (A'.add j) = some u) := fun w3 hb j u hu => by
      rw [show sinces (L.drop (i + 1)) = (sinces L).drop ((i + 1) * 1) by unfold sinces; rw [List.map_drop, Nat.mul_one]] at hu
      have h0 := hA3 j u hu
      exact (hb.cell (lt_of_cell h0)).trans h0
    have S6 : Aside (∀ l u, u ∈ sinces l → u.oneCell' = true) := fun l u hu => by
      unfold sinces at hu
      obtain ⟨x, -, rfl⟩ := List.mem_map.1 hu
      rfl
    clear hb2 hr2 hbut T T2 hA3 hc' O1 L1 N1 N2 c0 f0 hA
    go_upto_region 1 with fail
    go_region_law (first
      | (refine step_own (by rfl) _ _ 39 (by rfl) wc.heap.size 22 i1 _ 1 8 Tryd.underlying39 hi1 hz1 hs1 hy1 (by rfl) (by decide) (.slice (some ⟨wc.heap.size, 0, none⟩) 0 0) 0 [] (by rfl) O5.out ⟨g', 0, none⟩ i cap' (sinces (L.take i)) (by rfl) L5.out.1 N5.out (S6.out _) (by unfold maxLen; omega) (by omega) (by show wc.heap.size ≤ (wc.alloc (.cells #[] 22)).heap.size; simp) ?_; intro v1 w3 hown hgrow hat; have F3 : Aside (Below wc.heap.size wc w3 ∧ ∀ q, v1.ownBlock = some q → wc.heap.size ≤ q) := grown_one hgrow hat; have c3 := (F3.out.1.cell (p := ⟨mb, 1, none⟩) lm').trans c1; have O3 := Lib.hid hown; clear hown hgrow hat)
      | (refine step_own (by rfl) _ _ 39 (by rfl) wc.heap.size 22 i1 _ 1 8 Tryd.underlying39 hi1 hz1 hs1 hy1 (by rfl) (by decide) v1 (0 + i) ([] ++ sinces (L.take i)) (by rfl) O3.out A' (n - (i + 1)) (cap' - (i + 1)) (sinces (L.drop (i + 1))) (by rfl) L5.out.2 (N6.out w3 F3.out.1) (S6.out _) (by unfold maxLen; omega) (by omega) F3.out.1.size ?_; intro v9 w4 hown hgrow hat; have F4 : Aside (Below wc.heap.size wc w4 ∧ ∀ q, v9.ownBlock = some q → wc.heap.size ≤ q) := grown_two F3.out hgrow hat; have c4 := (F4.out.1.cell (p := ⟨mb, 1, none⟩) lm').trans c1; have f4 := (F4.out.1.frozen (p := ⟨mb, 1, none⟩) lm').trans f1; rw [E0.out.1] at hown; obtain ⟨va, vc, hv, -⟩ := own_form hown; subst hv; have O4 := Lib.hid hown; clear hown hgrow hat))
    all_goals
      go_wp2_with fail
      refine bodyPost_end (results_none rfl _ _ _) rfl ⟨rfl, v2, .slice va ln vc, ⟨?_, HB.out.above, ?_, ?_, ?_⟩, ?_, ?_⟩
      · exact (HC2.out.1.below F4.out.1 HC2.out.1.lt).set 1 _
      · have ne : v2.ownBlock = none ∨ v2.ownBlock ≠ some mb := by
          cases hv : v2.ownBlock with
          | none => exact .inl rfl
          | some q => exact .inr (fun e => by have := (HC2.out.2.1.lt q hv).1; have := Option.some.inj e; omega)
        exact own_base ((HC2.out.2.1.kept (row := none) ⟨F4.out.1.os, F4.out.1.tape, F4.out.1.output, F4.out.1.size, fun k hk _ => F4.out.1.block k hk⟩ (by cases v2.ownBlock <;> simp)).kept (grown_set w4 mb 1 _) ne) (Nat.le_trans HB.out.above (Nat.le_of_lt lm))
      · have h := O4.out
        rw [List.nil_append, sinces_erase] at h
        rw [E0.out.2]
        exact own_base (h.kept (grown_set w4 mb 1 _) (by
          cases hv : (Value.slice va ln vc).ownBlock with
          | none => exact .inl rfl
          | some q => exact .inr (fun e => by have := F4.out.2 q hv; have := Option.some.inj e; omega))) (Nat.le_trans HB.out.above (Nat.le_of_lt lm'))
      · refine ⟨fun e => by have := (HC2.out.2.1.lt mb e).1; omega, fun e => by have := F4.out.2 mb e; omega, fun q h1 h2 => by have := (HC2.out.2.1.lt q h1).2; have := F4.out.2 q h2; omega⟩
      · exact (HC2.out.2.2.then (but_below (S := fun k => k = mb) F4.out.1 (Nat.le_refl _)) (fun k hk => .inl hk)).set mb 1 _ (.inl rfl)
      · intro k hk
        rcases hk with rfl | hk | hk
        · exact .inl rfl
        · exact .inr (HC2.out.2.1.lt k hk).1
        · exact .inr (by have := F4.out.2 k hk; have := HC2.out.2.2.size; omega)
end Go.Proofs.YtelofhplpeeplaaDoor.wire
/- The document's Take. -/
set_option linter.unusedSimpArgs false
set_option linter.unusedVariables false
namespace Go.Proofs.YtelofhplpeeplaaDoor.wire
open Go.RowKit Go.Proofs.YtelofhplpeeplaaDoor.errs

theorem split_at (L : List Rq) (k : Nat) (h : k < L.length) : L = L.take k ++ at_ L k :: L.drop (k + 1) := by
  rw [at_get h, ← List.drop_eq_getElem_cons h, List.take_append_drop]
theorem first_at {id : Nat} {L : List Rq} {k : Nat} (hk : k < L.length) (hno : ∀ j, j < k → (at_ L j).id ≠ id) (hx : (at_ L k).id = id) (hd : (L.map Rq.id).Nodup) :
    L.filter (fun x => (x.id : Int) == (id : Int)) = [at_ L k] ∧ L.filter (fun x => !hasId id x) = L.eraseIdx k := by
  have hs := split_at L k hk
  have h1 : ∀ x ∈ L.take k, hasId id x = false := fun x hm => by
    obtain ⟨j, hj, rfl⟩ := List.mem_iff_getElem.1 hm
    rw [List.length_take] at hj
    rw [List.getElem_take]
    have := hno j (by omega)
    rw [at_get (by omega)] at this
    cases hq : hasId id L[j] with
    | false => rfl
    | true => exact absurd ((hasId_iff id _).1 hq) this
  have h2 : ∀ x ∈ L.drop (k + 1), hasId id x = false := fun x hm => by
    rw [hs, List.map_append, List.map_cons, List.nodup_append, List.nodup_cons] at hd
    cases hq : hasId id x with
    | false => rfl
    | true =>
      refine absurd ?_ hd.2.1.1
      rw [hx, ← (hasId_iff id x).1 hq]
      exact List.mem_map.2 ⟨x, hm, rfl⟩
  have h3 : hasId id (at_ L k) = true := (hasId_iff id _).2 hx
  have f1 : (L.take k).filter (hasId id) = [] := List.filter_eq_nil_iff.2 (fun x hm => by rw [h1 x hm]; decide)
  have f2 : (L.drop (k + 1)).filter (hasId id) = [] := List.filter_eq_nil_iff.2 (fun x hm => by rw [h2 x hm]; decide)
  have f3 : (L.take k).filter (fun x => !hasId id x) = L.take k := List.filter_eq_self.2 (fun x hm => by rw [h1 x hm]; rfl)
  have f4 : (L.drop (k + 1)).filter (fun x => !hasId id x) = L.drop (k + 1) := List.filter_eq_self.2 (fun x hm => by rw [h2 x hm]; rfl)
  constructor
  · show L.filter (hasId id) = _
    conv => lhs; rw [hs]
    rw [List.filter_append, f1, List.filter_cons_of_pos h3, f2]; rfl
  · conv => lhs; rw [hs]
    rw [List.filter_append, f3, List.filter_cons_of_neg (by rw [h3]; decide), f4, List.eraseIdx_eq_take_drop_succ]
theorem none_at {id : Nat} {L : List Rq} (hno : ∀ j, j < L.length → (at_ L j).id ≠ id) : L.filter (fun x => (x.id : Int) == (id : Int)) = [] ∧ L.filter (fun x => !hasId id x) = L := by
  have h1 : ∀ x ∈ L, hasId id x = false := fun x hm => by
    obtain ⟨j, hj, rfl⟩ := List.mem_iff_getElem.1 hm
    have := hno j hj
    rw [at_get hj] at this
    cases hq : hasId id L[j] with
    | false => rfl
    | true => exact absurd ((hasId_iff id _).1 hq) this
  exact ⟨List.filter_eq_nil_iff.2 (fun x hm => by show ¬ hasId id x = true; rw [h1 x hm]; decide), List.filter_eq_self.2 (fun x hm => by rw [h1 x hm]; rfl)⟩
/-- What a call of the document's book leaves. -/
def RLeft (w : World) (mb base : Nat) (vl vs : Value) (N : Nat) (L' : List Rq) (w' : World) : Prop :=
  ∃ vl' vs', Rb w' mb base vl' vs' N L' ∧ But (Its mb vl vs) w w' ∧ ∀ k, Its mb vl' vs' k → Its mb vl vs k ∨ w.heap.size ≤ k
theorem RLeft.on {w w' w2 : World} {mb base : Nat} {vl vs : Value} {N : Nat} {L' : List Rq} (h : RLeft w mb base vl vs N L' w') (hb : Below w'.heap.size w' w2) : RLeft w mb base vl vs N L' w2 := by
  obtain ⟨a, b, h1, h2, h3⟩ := h
  exact ⟨a, b, h1.on hb, h2.on hb (Nat.le_refl _), h3⟩
theorem Rb.put {w : World} {mb base : Nat} {vl vs : Value} {N : Nat} {L : List Rq} (h : Rb w mb base vl vs N L) (c i : Nat) (u : Value) (hc : ∀ k, Its mb vl vs k → k ≠ c) : Rb (w.setCell ⟨c, i, none⟩ u) mb base vl vs N L :=
  h.kept (S := fun k => k = c) ((But.refl _ w).set c i u (.inl rfl)) (fun k q e => hc k q e)
theorem Rb.six {w : World} {mb base : Nat} {vl vs : Value} {N : Nat} {L : List Rq} (h : Rb w mb base vl vs N L) (c : Nat) (hc : ∀ k, Its mb vl vs k → k ≠ c) (a0 a1 a2 a3 a4 a5 : Value) : Rb ((((((w.setCell ⟨c, 0, none⟩ a0).setCell ⟨c, 1, none⟩ a1).setCell ⟨c, 2, none⟩ a2).setCell ⟨c, 3, none⟩ a3).setCell ⟨c, 4, none⟩ a4).setCell ⟨c, 5, none⟩ a5) mb base vl vs N L :=
  (((((h.put c 0 a0 hc).put c 1 a1 hc).put c 2 a2 hc).put c 3 a3 hc).put c 4 a4 hc).put c 5 a5 hc
theorem But.six {S : Nat → Prop} {w0 w : World} (h : But S w0 w) (c : Nat) (hc : w0.heap.size ≤ c) (a0 a1 a2 a3 a4 a5 : Value) : But S w0 ((((((w.setCell ⟨c, 0, none⟩ a0).setCell ⟨c, 1, none⟩ a1).setCell ⟨c, 2, none⟩ a2).setCell ⟨c, 3, none⟩ a3).setCell ⟨c, 4, none⟩ a4).setCell ⟨c, 5, none⟩ a5) :=
  (((((h.set c 0 a0 (.inr hc)).set c 1 a1 (.inr hc)).set c 2 a2 (.inr hc)).set c 3 a3 (.inr hc)).set c 4 a4 (.inr hc)).set c 5 a5 (.inr hc)
def RTakeIs (id : Nat) (L : List Rq) (e : Ending) : Prop :=
  match L.filter (fun x => (x.id : Int) == (id : Int)) with
  | [] => e = .returned (.tuple #[.agg zero6, .bool false])
  | x :: _ => e = .returned (.tuple #[.agg (arr6 x), .bool true])

set_option maxRecDepth 100000 in
set_option maxHeartbeats 2000000 in
theorem rtake_any (id : Nat) (mb base : Nat) (vl vs : Value) (N : Nat) (L : List Rq) (w : World) (hB : Rb w mb base vl vs N L) (hn : L.length ≤ 100000) (hd : (L.map Rq.id).Nodup) :
    Calls Tryd.prog 19 #[.pointer (some ⟨mb, 0, none⟩), .int .u64 (id : Int)] w fun e w' => RTakeIs id L e ∧ RLeft w mb base vl vs N (L.filter (fun x => !hasId id x)) w' := by
  obtain ⟨a, cap, hv, r1, r2, r3⟩ := own_form hB.rows
  have lm := hB.blk.lt
  obtain ⟨W1, hW1⟩ : ∃ W1, w.alloc (.cells zero6 45) = W1 := ⟨_, rfl⟩
  have A1 : Aside (Rb W1 mb base vl vs N L ∧ Below w.heap.size w W1 ∧ Blk W1 w.heap.size zero6 45) := by
    subst hW1
    exact ⟨hB.on (up w _), up w _, blk_new w _ _⟩
  have RD := fun i hi w hB => rdrop_any mb base i vl vs N L hi hn w hB
  have HB : Aside (Rb w mb base vl vs N L) := hB
  have HD := Lib.hid hd
  have HW1 := Lib.hid hW1
  have HV := Lib.hid hv
  obtain ⟨n, hLn⟩ : ∃ n, Hid (L.length = n) := ⟨_, rfl⟩
  rw [hLn.out] at hv r1 r3 hn
  clear hB hd hW1
  go_enter Tryd.func19, Tryd.ntmps19
  go_wp2_with fail
  rw [HW1.out]
  have c0 := A1.out.1.blk.get 0
  simp only [List.getElem?_toArray, List.getElem?_cons_zero, List.getElem?_cons_succ] at c0
  rw [hv] at c0
  clear hv
  go_loopg [6] n (fun q t6 wr => ∃ i : Nat, t6 = .int .i64 (i : Int) ∧ q + i = n ∧ W1 = wr ∧ Hid (∀ j, j < i → (at_ L j).id ≠ id))
  case atStart => exact ⟨0, rfl, rfl, rfl, fun j hj => absurd hj (Nat.not_lt_zero _)⟩
  case round =>
    obtain ⟨i, rfl, hq, rfl, hno⟩ := hrel
    have y0 : (0 : Int) ≤ (i : Int) := by omega
    by_cases hlt : i < n
    · have y1 : (i : Int) < (n : Int) := by omega
      obtain ⟨g, rfl, hc⟩ := r3 (by omega)
      have hiL : i < L.length := by rw [hLn.out]; exact hlt
      have cc : ∀ j, j < 6 → W1.cell? ⟨g, i * 6 + j, none⟩ = (enc6 (at_ L i))[j]? := fun j hj => by
        rw [← flatE_at len6 L i j hiL hj, ← hc (i * 6 + j) (by omega)]
        exact A1.out.2.1.cell (p := ⟨g, i * 6 + j, none⟩) (HB.out.rows.lt g (by rw [HV.out]; rfl)).2
      have e0 := cc 0 (by omega)
      have e1 := cc 1 (by omega)
      have e2 := cc 2 (by omega)
      have e3 := cc 3 (by omega)
      have e4 := cc 4 (by omega)
      have e5 := cc 5 (by omega)
      obtain ⟨x, hxx⟩ : ∃ x, Hid (at_ L i = x) := ⟨_, rfl⟩
      rw [hxx.out] at e0 e1 e2 e3 e4 e5
      simp only [enc6, List.getElem?_cons_zero, List.getElem?_cons_succ, Nat.add_zero] at e0 e1 e2 e3 e4 e5
      clear cc hc
      by_cases hid : x.id = id
      · have y2 : ((x.id : Int) == (id : Int)) = true := beq_iff_eq.2 (by omega)
        have FA := Lib.hid (first_at hiL hno.out (by rw [hxx.out]; exact hid) HD.out)
        have D := RD i hiL _ (A1.out.1.on (up W1 (.cells (arr6 x) 45)))
        have X2 : Aside (Blk (W1.alloc (.cells (arr6 x) 45)) W1.heap.size (arr6 x) 45 ∧ W1.heap.size ≠ mb ∧ w.heap.size < W1.heap.size) := ⟨blk_new _ _ _, by have := A1.out.1.blk.lt; omega, A1.out.2.2.lt⟩
        clear hid hno RD
        go_wp2_with fail
        refine D.mono ?_; rintro e w4 ⟨rfl, vl', vs', d1, d2, d3⟩
        have X4 := d2.blk X2.out.1 X2.out.2.1
        have R4 := d2.blk (A1.out.2.2.alloc (.cells (arr6 x) 45)) (by have := A1.out.2.2.lt; intro e; have := HB.out.blk.lt; omega)
        have q0 := X4.get 0
        have q1 := X4.get 1
        have q2 := X4.get 2
        have q3 := X4.get 3
        have q4 := X4.get 4
        have q5 := X4.get 5
        have p0 := R4.get 0
        have p1 := R4.get 1
        have p2 := R4.get 2
        have p3 := R4.get 3
        have p4 := R4.get 4
        have p5 := R4.get 5
        have g0 := R4.frz 0
        have g1 := R4.frz 1
        have g2 := R4.frz 2
        have g3 := R4.frz 3
        have g4 := R4.frz 4
        have g5 := R4.frz 5
        simp only [List.getElem?_toArray, List.getElem?_cons_zero, List.getElem?_cons_succ] at q0 q1 q2 q3 q4 q5 p0 p1 p2 p3 p4 p5
        have END : Aside (∀ a0 a1 a2 a3 a4 a5, RLeft w mb base vl vs N (L.filter (fun x => !hasId id x)) ((((((w4.setCell ⟨w.heap.size, 0, none⟩ a0).setCell ⟨w.heap.size, 1, none⟩ a1).setCell ⟨w.heap.size, 2, none⟩ a2).setCell ⟨w.heap.size, 3, none⟩ a3).setCell ⟨w.heap.size, 4, none⟩ a4).setCell ⟨w.heap.size, 5, none⟩ a5)) := fun a0 a1 a2 a3 a4 a5 => by
          have sz : w.heap.size < (W1.alloc (.cells (arr6 x) 45)).heap.size := by have := X2.out.2.2; simp; omega
          refine ⟨vl', vs', ?_, ?_, ?_⟩
          · rw [FA.out.2]
            exact d1.six _ (fun k hk => by rcases d3 k hk with rfl | h <;> omega) _ _ _ _ _ _
          · refine But.six ?_ _ (Nat.le_refl _) _ _ _ _ _ _
            have h1 : But (Its mb vl vs) w (W1.alloc (.cells (arr6 x) 45)) := (but_below A1.out.2.1 (Nat.le_refl _)).on (up W1 _) (Nat.le_refl _)
            exact h1.then d2 (fun k hk => .inl (.inl hk))
          · intro k hk
            rcases d3 k hk with rfl | h
            · exact .inl (.inl rfl)
            · exact .inr (by omega)
        have HM : Hid (L.filter (fun x => (x.id : Int) == (id : Int)) = [x]) := by show _ = _; rw [FA.out.1, hxx.out]
        clear X4 R4 d1 d2 d3 e0 e1 e2 e3 e4 e5 FA X2 D
        go_wp2_with fail
        refine bodyPost_ret (v := .tuple #[.agg (arr6 x), .bool true]) (by simp [results, Tryd.results19, go_sem, p0, p1, p2, p3, p4, p5]) rfl ⟨?_, END.out _ _ _ _ _ _⟩
        unfold RTakeIs
        rw [HM.out]
      · have y2 : ((x.id : Int) == (id : Int)) = false := beq_eq_false_iff_ne.2 (by omega)
        have NX : Hid (∀ j, j < i + 1 → (at_ L j).id ≠ id) := fun j hj => by
          by_cases e : j = i
          · rw [e, hxx.out]; exact hid
          · exact hno.out j (by omega)
        clear hid hno RD
        go_wp2_with fail
        go_roundg (gk - 1)
        case measure => omega
        case rel => exact ⟨i + 1, by go_num, by omega, rfl, NX⟩
    · have y1 : ¬ (i : Int) < (n : Int) := by omega
      have NA := Lib.hid (none_at (L := L) (id := id) (fun j hj => hno.out j (by have := hLn.out; omega)))
      clear hno RD
      have p0 := A1.out.2.2.get 0
      have p1 := A1.out.2.2.get 1
      have p2 := A1.out.2.2.get 2
      have p3 := A1.out.2.2.get 3
      have p4 := A1.out.2.2.get 4
      have p5 := A1.out.2.2.get 5
      have g0 := A1.out.2.2.frz 0
      have g1 := A1.out.2.2.frz 1
      have g2 := A1.out.2.2.frz 2
      have g3 := A1.out.2.2.frz 3
      have g4 := A1.out.2.2.frz 4
      have g5 := A1.out.2.2.frz 5
      simp only [List.getElem?_toArray, List.getElem?_cons_zero, List.getElem?_cons_succ] at p0 p1 p2 p3 p4 p5
      have END : Aside (∀ a0 a1 a2 a3 a4 a5, RLeft w mb base vl vs N (L.filter (fun x => !hasId id x)) ((((((W1.setCell ⟨w.heap.size, 0, none⟩ a0).setCell ⟨w.heap.size, 1, none⟩ a1).setCell ⟨w.heap.size, 2, none⟩ a2).setCell ⟨w.heap.size, 3, none⟩ a3).setCell ⟨w.heap.size, 4, none⟩ a4).setCell ⟨w.heap.size, 5, none⟩ a5)) := fun a0 a1 a2 a3 a4 a5 => by
        refine ⟨vl, vs, ?_, But.six (but_below A1.out.2.1 (Nat.le_refl _)) _ (Nat.le_refl _) _ _ _ _ _ _, fun k hk => .inl hk⟩
        rw [NA.out.2]
        exact A1.out.1.six _ (fun k hk => by have := (HB.out.lt k hk).2; omega) _ _ _ _ _ _
      go_wp2_with fail
      refine bodyPost_ret (v := .tuple #[.agg zero6, .bool false]) (by simp [results, Tryd.results19, go_sem, p0, p1, p2, p3, p4, p5]) rfl ⟨?_, END.out _ _ _ _ _ _⟩
      unfold RTakeIs
      rw [NA.out.1]
end Go.Proofs.YtelofhplpeeplaaDoor.wire
/- The document's Late. -/
set_option linter.unusedSimpArgs false
set_option linter.unusedVariables false
namespace Go.Proofs.YtelofhplpeeplaaDoor.wire
open Go.RowKit Go.Proofs.YtelofhplpeeplaaDoor.errs

/-- The list within a loop that takes out one by one: what has been looked at and stays, and what is ahead. -/
def Cur (p : Rq → Bool) (L : List Rq) (k : Nat) : List Rq := (L.take k).filter (fun x => !p x) ++ L.drop k
theorem cur_start (p : Rq → Bool) (L : List Rq) : Cur p L 0 = L := by simp [Cur]
theorem cur_end (p : Rq → Bool) (L : List Rq) (k : Nat) (h : L.length ≤ k) : Cur p L k = L.filter (fun x => !p x) := by
  unfold Cur
  rw [List.take_of_length_le h, List.drop_of_length_le h, List.append_nil]
theorem cur_len (p : Rq → Bool) (L : List Rq) (k : Nat) (h : k ≤ L.length) : (Cur p L k).length = ((L.take k).filter (fun x => !p x)).length + (L.length - k) := by
  unfold Cur
  rw [List.length_append, List.length_drop]
theorem cur_at (p : Rq → Bool) (L : List Rq) (k : Nat) (h : k < L.length) : at_ (Cur p L k) ((L.take k).filter (fun x => !p x)).length = at_ L k := by
  rw [at_get (by rw [cur_len p L k (by omega)]; omega), at_get h]
  unfold Cur
  rw [List.getElem_append_right (Nat.le_refl _)]
  simp
theorem cur_out (p : Rq → Bool) (L : List Rq) (k : Nat) (h : k < L.length) (hp : p (at_ L k) = true) : (Cur p L k).eraseIdx ((L.take k).filter (fun x => !p x)).length = Cur p L (k + 1) := by
  unfold Cur
  rw [List.eraseIdx_append_of_length_le (Nat.le_refl _), Nat.sub_self, List.drop_eq_getElem_cons h, List.eraseIdx_cons_zero, filt_no (fun x => !p x) L k h (by rw [hp]; rfl)]
theorem cur_stay (p : Rq → Bool) (L : List Rq) (k : Nat) (h : k < L.length) (hp : p (at_ L k) = false) : Cur p L (k + 1) = Cur p L k ∧ ((L.take (k + 1)).filter (fun x => !p x)).length = ((L.take k).filter (fun x => !p x)).length + 1 := by
  have hn := filt_next (fun x => !p x) L k h
  rw [if_pos (by rw [hp]; rfl)] at hn
  unfold Cur
  rw [hn]
  refine ⟨?_, by rw [List.length_append]; rfl⟩
  rw [List.append_assoc, List.drop_eq_getElem_cons h, at_get h]
  rfl
theorem Rb.cut {w w' : World} {mb base : Nat} {vl vs : Value} {N : Nat} {L : List Rq} {r : Option Nat} (h : Rb w mb base vl vs N L) (hg : w.grownBy w' r) (hr : ∀ q, r = some q → ¬ Its mb vl vs q) : Rb w' mb base vl vs N L :=
  h.kept (S := fun k => r = some k) ⟨hg.os, hg.tape, hg.output, hg.size, fun k hk hs => hg.block k hk (fun e => hs e.symm)⟩ (fun k hk e => hr k e hk)

theorem own_but {S : Nat → Prop} {w w' : World} {base : Nat} {e : TypeId} {k : Nat} {v : Value} {n : Nat} {xs : List Value} (h : w.ownsRow base e k v n xs) (hb : But S w w') (hS : ∀ q, v.ownBlock = some q → ¬ S q) : w'.ownsRow base e k v n xs := by
  refine ⟨h.1, ?_⟩
  rcases h.2 with h0 | ⟨g, cap, cur, rfl, hB, hg, r⟩
  · exact .inl h0
  · exact .inr ⟨g, cap, cur, rfl, hB, hb.blk hg (hS g rfl), r⟩
/-- An append of a request, and where the row lies then. -/
theorem push6at {i : TypeInfo} (hi : Tryd.prog.info? 45 = some i) (hz : i.zero = some (.agg #[.int .u64 0, .string ⟨#[]⟩, .bool false, .int .i64 0, .string ⟨#[]⟩, .string ⟨#[]⟩])) (hsize : i.size = 6) (hby : i.bytes = 72)
    {base : Nat} {W : World} {v : Value} {ps : List Rq} (hown : W.ownsRow base 45 6 v ps.length (flatE enc6 ps)) (x : Rq) (hn : ps.length ≤ 1000000) (hb : base ≤ W.heap.size)
    {ops : Array Oper} {rest : List Oper} {o : Oper} {a : Act} {Q : Exit → Act → World → Prop} (hgd : o.guard = none) (y z : Operand) (ho : o.op = .call { callee := .builtin .append, args := #[y, z], argTypes := #[38, 38] }) (hy : a.eval y = v) (bb : Nat) (hx : a.eval z = .slice (some ⟨bb, 0, none⟩) 1 1) (hbb : bb = W.heap.size)
    (h : ∀ v' w', w'.ownsRow base 45 6 v' (ps.length + 1) (flatE enc6 ps ++ enc6 x) → (W.alloc (.cells (arr6 x) 45)).grownBy w' v.ownBlock → (v'.ownBlock = v.ownBlock ∨ v'.ownBlock = some (W.heap.size + 1)) → wpList Tryd.prog ops Q rest (a.put o.dst v') w') : wpList Tryd.prog ops Q (o :: rest) a (W.alloc (.cells (arr6 x) 45)) := by
  rw [hbb] at hx
  refine wpList_append_own_at _ hgd y z 38 ho base 45 i _ 6 72 Tryd.underlying38 hi hz hsize hby rfl (by decide) v ps.length (flatE enc6 ps) hy (hown.alloc _) ⟨W.heap.size, 0, none⟩ 1 1 (enc6 x) hx rfl (news_at W (enc6 x) _) (fun u hu => cells6 [x] u (by rw [flatE_one]; exact hu)) (by unfold maxLen; omega) (by omega) (by simp; omega) ?_
  intro v' w' hown' hgrow _ hat
  refine h v' w' hown' hgrow ?_
  rcases hat with e | e
  · exact .inl e
  · exact .inr (by rw [e]; simp)

set_option maxRecDepth 100000 in
set_option maxHeartbeats 4000000 in
theorem rlate_any (now : Nat) (hnow : now ≤ 1000000) (mb base : Nat) (vl vs : Value) (N : Nat) (L : List Rq) (w : World) (hB : Rb w mb base vl vs N L) (hn : L.length ≤ 100000) (hs : ∀ x ∈ L, x.since ≤ now) :
    Calls Tryd.prog 15 #[.pointer (some ⟨mb, 0, none⟩), .int .u64 (now : Int)] w fun e w' => (∃ r, e = .returned r ∧ w'.ownsRow w.heap.size 45 6 r (L.filter (late now)).length (flatE enc6 (L.filter (late now)))) ∧ RLeft w mb base vl vs N (L.filter (fun x => !late now x)) w' := by
  obtain ⟨i6, hi6, hz6, hs6, hy6⟩ := info_of info6
  have RD := fun (C : List Rq) i vl vs hi hn w hB => rdrop_any mb base i vl vs N C hi hn w hB
  have HB : Aside (Rb w mb base vl vs N L) := hB
  have HS := Lib.hid hs
  obtain ⟨n, hLn⟩ : ∃ n, Hid (L.length = n) := ⟨_, rfl⟩
  rw [hLn.out] at hn
  clear hB hs
  obtain ⟨p, hp⟩ : ∃ p, Hid (late now = p) := ⟨_, rfl⟩
  rw [hp.out]
  go_enter Tryd.func15, Tryd.ntmps15
  go_wp2_with fail
  go_loopg [5, 6] n (fun q t5 t6 wr => ∃ (k i : Nat) (r vl' vs' : Value), r = t5 ∧ t6 = .int .i64 (i : Int) ∧ q + k = n ∧ Aside (i = ((L.take k).filter (fun x => !p x)).length ∧ wr.ownsRow w.heap.size 45 6 r ((L.take k).filter p).length (flatE enc6 ((L.take k).filter p)) ∧ Rb wr mb base vl' vs' N (Cur p L k) ∧ But (Its mb vl vs) w wr ∧ (∀ k, Its mb vl' vs' k → Its mb vl vs k ∨ w.heap.size ≤ k) ∧ ∀ q, r.ownBlock = some q → ¬ Its mb vl' vs' q))
  case atStart =>
    refine ⟨0, 0, _, vl, vs, rfl, rfl, rfl, by simp, ?_, ?_, but_below (up w _) (Nat.le_refl _), fun k hk => .inl hk, fun q hq h => ?_⟩
    · exact World.ownsRow_lit (base := w.heap.size) (e := 45) (size := 6) w #[] 0 (Nat.le_refl _) (by unfold maxLen; omega) rfl
    · rw [cur_start]; exact HB.out.on (up w _)
    · have hq : w.heap.size = q := Option.some.inj hq
      have := (HB.out.lt q h).2
      omega
  case round =>
    obtain ⟨k, i, r, vl', vs', rfl, rfl, hq, hA⟩ := hrel
    have y0 : (0 : Int) ≤ (i : Int) := by omega
    have hk : k ≤ L.length := by rw [hLn.out]; omega
    have hcl := cur_len p L k hk
    rw [← hA.out.1, hLn.out] at hcl
    obtain ⟨m, hm⟩ : ∃ m, Hid ((Cur p L k).length = m) := ⟨_, rfl⟩
    rw [hm.out] at hcl
    have HM : Hid (m ≤ 100000) := by
      have h9 : i ≤ k := by rw [hA.out.1]; exact filt_le _ _ _
      show _ ≤ _
      omega
    obtain ⟨a, cap, hv, s1, s2, s3⟩ := own_form hA.out.2.2.1.rows
    obtain ⟨a', cap', hv', t1, t2, t3⟩ := own_form hA.out.2.2.1.ticks
    have c0 := hA.out.2.2.1.blk.get 0
    have c1 := hA.out.2.2.1.blk.get 1
    simp only [List.getElem?_toArray, List.getElem?_cons_zero, List.getElem?_cons_succ] at c0 c1
    rw [hv, hm.out] at c0
    rw [hv', hm.out] at c1
    rw [hm.out] at s1 s3 t1 t3
    clear hv hv'
    by_cases hlt : k < n
    · have hkL : k < L.length := by rw [hLn.out]; exact hlt
      have y1 : (i : Int) < (m : Int) := by omega
      obtain ⟨g, rfl, hc⟩ := s3 (by omega)
      obtain ⟨g', rfl, hc'⟩ := t3 (by omega)
      have him : i < (Cur p L k).length := by rw [hm.out]; omega
      have hat := cur_at p L k hkL
      rw [← hA.out.1] at hat
      have cc : ∀ j, j < 6 → wr.cell? ⟨g, i * 6 + j, none⟩ = (enc6 (at_ L k))[j]? := fun j hj => by
        rw [← hat, ← flatE_at len6 (Cur p L k) i j him hj]
        exact hc (i * 6 + j) (by omega)
      have e0 := cc 0 (by omega)
      have e1 := cc 1 (by omega)
      have e2 := cc 2 (by omega)
      have e3 := cc 3 (by omega)
      have e4 := cc 4 (by omega)
      have e5 := cc 5 (by omega)
      have e6 := hc' i (by omega)
      rw [sinces_at _ i him, hat] at e6
      obtain ⟨x, hxx⟩ : ∃ x, Hid (at_ L k = x) := ⟨_, rfl⟩
      rw [hxx.out] at e0 e1 e2 e3 e4 e5 e6
      simp only [enc6, List.getElem?_cons_zero, List.getElem?_cons_succ, Nat.add_zero] at e0 e1 e2 e3 e4 e5
      have hsx : x.since ≤ now := HS.out x (by rw [← hxx.out, at_get hkL]; exact List.getElem_mem hkL)
      have hw : IntKind.u64.wrap ((now : Int) - (x.since : Int)) = (now : Int) - (x.since : Int) := IntWalk.u64_in _ (by omega)
      have hpx : p x = decide (x.since + 120 ≤ now) := by rw [← hp.out]; rfl
      clear cc hc hc' hat
      by_cases hl : x.since + 120 ≤ now
      · have y2 : (120 : Int) ≤ (now : Int) - (x.since : Int) := by omega
        have h1 : p (at_ L k) = true := by rw [hxx.out, hpx]; exact decide_eq_true hl
        have NX : Aside (flatE enc6 ((L.take (k + 1)).filter p) = flatE enc6 ((L.take k).filter p) ++ enc6 x ∧ ((L.take (k + 1)).filter p).length = ((L.take k).filter p).length + 1 ∧ ((L.take k).filter p).length ≤ k ∧ (Cur p L k).eraseIdx i = Cur p L (k + 1) ∧ i = ((L.take (k + 1)).filter (fun x => !p x)).length) := by
          have h2 := flat6_next p L k hkL h1
          rw [hxx.out] at h2
          exact ⟨h2.1, h2.2, filt_le p L k, by rw [hA.out.1]; exact cur_out p L k hkL h1, by rw [filt_no (fun x => !p x) L k hkL (by rw [h1]; rfl)]; exact hA.out.1⟩
        have hkb : k ≤ 100000 := by omega
        clear hl h1 hpx hsx
        go_wp2_with (at_builtin; refine push6at hi6 hz6 hs6 hy6 hA.out.2.1 x (by have := NX.out.2.2.1; omega) hA.out.2.2.2.1.size rfl _ _ rfl rfl _ rfl rfl ?_; intro v' w4 hO hG hT)
        have K4 : Aside (w4.ownsRow w.heap.size 45 6 v' ((L.take (k + 1)).filter p).length (flatE enc6 ((L.take (k + 1)).filter p)) ∧ Rb w4 mb base vl' vs' N (Cur p L k) ∧ But (Its mb vl vs) w w4 ∧ (∀ q, v'.ownBlock = some q → ¬ Its mb vl' vs' q)) := by
          have hB1 := hA.out.2.2.1.on (up wr (.cells (arr6 x) 45))
          refine ⟨?_, hB1.cut hG hA.out.2.2.2.2.2, (hA.out.2.2.2.1.on (up wr _) (Nat.le_refl _)).grown hG (fun q hq => .inr (hA.out.2.1.lt q hq).1), fun q hq h => ?_⟩
          · rw [NX.out.1, NX.out.2.1]; exact hO
          · rcases hT with e | e
            · exact hA.out.2.2.2.2.2 q (e ▸ hq) h
            · rw [e] at hq
              have hq := Option.some.inj hq
              have := (hA.out.2.2.1.lt q h).2
              omega
        have D := RD (Cur p L k) i vl' vs' him (by rw [hm.out]; exact HM.out) _ K4.out.2.1
        clear hO hG hT RD e0 e1 e2 e3 e4 e5 e6 c0 c1 him
        refine D.mono ?_; rintro e w5 ⟨rfl, vl5, vs5, d1, d2, d3⟩
        have K5 : Aside (i = ((L.take (k + 1)).filter (fun x => !p x)).length ∧ w5.ownsRow w.heap.size 45 6 v' ((L.take (k + 1)).filter p).length (flatE enc6 ((L.take (k + 1)).filter p)) ∧ Rb w5 mb base vl5 vs5 N (Cur p L (k + 1)) ∧ But (Its mb vl vs) w w5 ∧ (∀ k, Its mb vl5 vs5 k → Its mb vl vs k ∨ w.heap.size ≤ k) ∧ ∀ q, v'.ownBlock = some q → ¬ Its mb vl5 vs5 q) := by
          refine ⟨NX.out.2.2.2.2, own_but K4.out.1 d2 (fun q hq e => K4.out.2.2.2 q hq (.inl e)), by rw [← NX.out.2.2.2.1]; exact d1, K4.out.2.2.1.then d2 (fun k hk => .inl (.inl hk)), fun j hj => ?_, fun q hq h => ?_⟩
          · rcases d3 j hj with rfl | h
            · exact .inl (.inl rfl)
            · exact .inr (Nat.le_trans K4.out.2.2.1.size h)
          · rcases d3 q h with rfl | h'
            · exact K4.out.2.2.2 q hq (.inl rfl)
            · have := (K4.out.1.lt q hq).2
              omega
        clear d1 d2 d3 K4 D hA
        go_wp2_with fail
        go_roundg (gk - 1)
        case measure => omega
        case rel => exact ⟨k + 1, i, v', vl5, vs5, rfl, rfl, by omega, K5.out⟩
      · have y2 : ¬ (120 : Int) ≤ (now : Int) - (x.since : Int) := by omega
        have h1 : p (at_ L k) = false := by rw [hxx.out, hpx]; exact decide_eq_false hl
        have K5 : Aside (i + 1 = ((L.take (k + 1)).filter (fun x => !p x)).length ∧ wr.ownsRow w.heap.size 45 6 r ((L.take (k + 1)).filter p).length (flatE enc6 ((L.take (k + 1)).filter p)) ∧ Rb wr mb base vl' vs' N (Cur p L (k + 1)) ∧ But (Its mb vl vs) w wr ∧ (∀ k, Its mb vl' vs' k → Its mb vl vs k ∨ w.heap.size ≤ k) ∧ ∀ q, r.ownBlock = some q → ¬ Its mb vl' vs' q) := by
          obtain ⟨q1, q2⟩ := cur_stay p L k hkL h1
          rw [q1, q2, filt_no p L k hkL h1]
          exact ⟨by rw [← hA.out.1], hA.out.2⟩
        clear hl h1 hpx hsx hA RD
        go_wp2_with fail
        go_roundg (gk - 1)
        case measure => omega
        case rel => exact ⟨k + 1, i + 1, r, vl', vs', rfl, by go_num, by omega, K5.out⟩
    · have y1 : ¬ (i : Int) < (m : Int) := by omega
      have K5 : Aside (wr.ownsRow w.heap.size 45 6 r (L.filter p).length (flatE enc6 (L.filter p)) ∧ RLeft w mb base vl vs N (L.filter (fun x => !p x)) wr) := by
        have e1 : L.take k = L := List.take_of_length_le (by have := hLn.out; omega)
        have h2 := hA.out.2
        rw [e1, cur_end p L k (by have := hLn.out; omega)] at h2
        exact ⟨h2.1, vl', vs', h2.2.1, h2.2.2.1, h2.2.2.2.1⟩
      clear hA RD s3 t3
      go_wp2_with fail
      go_ret
      exact ⟨⟨r, rfl, K5.out.1⟩, K5.out.2⟩
end Go.Proofs.YtelofhplpeeplaaDoor.wire
