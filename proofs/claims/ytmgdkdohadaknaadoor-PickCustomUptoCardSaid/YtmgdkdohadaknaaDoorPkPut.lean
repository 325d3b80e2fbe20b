/- An append of one text, and of one candidate, to a slice of the call's own, as one step. -/
import Derived.Test.YtmgdkdohadaknaaDoorPkRow
import Derived.WalkKit
import Derived.OwnWalk
import Derived.Deep.AppendLies
import Derived.Laws.AppendOwnNone
set_option linter.unusedSimpArgs false
set_option linter.unusedVariables false
namespace Go.Proofs.YtmgdkdohadaknaaDoor.pick
open Go.RowKit Go.Proofs.YtmgdkdohadaknaaDoor.errs Go.Proofs.YtmgdkdohadaknaaDoor.wire

theorem news_str (w : World) (s : ByteArray) : ∀ j u, ([.string s] : List Value)[j]? = some u → (w.alloc (.cells #[.string s] 9)).cell? ((⟨w.heap.size, 0, none⟩ : Addr).add j) = some u := by
  intro j u hj
  rw [show (Addr.add ⟨w.heap.size, 0, none⟩ j : Addr) = ⟨w.heap.size, j, none⟩ by unfold Addr.add; split <;> simp_all, World.cell?_alloc_at _ _ _ _ rfl]
  obtain rfl : j = 0 := by have := (List.getElem?_eq_some_iff.1 hj).1; simpa using this
  exact hj
theorem news_cd (w : World) (x : Cd) : ∀ j u, (enc x)[j]? = some u → (w.alloc (.cells #[.string x.app, .bool x.c, .bool x.v, .bool x.l, .bool x.o] 25)).cell? ((⟨w.heap.size, 0, none⟩ : Addr).add j) = some u := by
  intro j u hj
  rw [show (Addr.add ⟨w.heap.size, 0, none⟩ j : Addr) = ⟨w.heap.size, j, none⟩ by unfold Addr.add; split <;> simp_all, World.cell?_alloc_at _ _ _ _ rfl]
  have h5 : j < 5 := (List.getElem?_eq_some_iff.1 hj).1
  rcases (show j = 0 ∨ j = 1 ∨ j = 2 ∨ j = 3 ∨ j = 4 by omega) with rfl | rfl | rfl | rfl | rfl <;> exact hj
/-- What an append leaves alone: all blocks that stood but the row's. -/
def Others (v : Value) (W w' : World) : Prop := ∀ k, k < W.heap.size → v.ownBlock ≠ some k → w'.heap[k]? = W.heap[k]?
/-- What the append of a text leaves. -/
structure PutS (base : Nat) (W w' : World) (v v' : Value) (l : List ByteArray) : Prop where
  own : OwnS w' base v' l
  below : Below base W w'
  others : Others v W w'
  place : v'.ownBlock = v.ownBlock ∨ ∀ q, v'.ownBlock = some q → W.heap.size ≤ q
structure PutC (base : Nat) (W w' : World) (v v' : Value) (L : List Cd) : Prop where
  own : OwnC w' base v' L
  below : Below base W w'
  others : Others v W w'
  place : v'.ownBlock = v.ownBlock ∨ ∀ q, v'.ownBlock = some q → W.heap.size ≤ q
theorem push_str {i : TypeInfo} (hi : Tryd.prog.info? 9 = some i) (hz : i.zero = some (.string ⟨#[]⟩)) (hsize : i.size = 1) (hby : i.bytes = 16)
    {base : Nat} {W : World} {v : Value} {l : List ByteArray} (hown : OwnS W base v l) (s : ByteArray) (hn : l.length ≤ 1000000) (hb : base ≤ W.heap.size)
    {ops : Array Oper} {rest : List Oper} {o : Oper} {a : Act} {Q : Exit → Act → World → Prop} (hgd : o.guard = none) (y x : Operand) (ho : o.op = .call { callee := .builtin .append, args := #[y, x], argTypes := #[27, 27] }) (hy : a.eval y = v) (bb : Nat) (hx : a.eval x = .slice (some ⟨bb, 0, none⟩) 1 1) (hbb : bb = W.heap.size)
    (h : ∀ v' w', PutS base W w' v v' (l ++ [s]) → wpList Tryd.prog ops Q rest (a.put o.dst v') w') : wpList Tryd.prog ops Q (o :: rest) a (W.alloc (.cells #[.string s] 9)) := by
  rw [hbb] at hx
  have hown1 : W.ownsRow base 9 1 v l.length (strs l) := hown
  refine wpList_append_lies _ hgd y x 27 ho base 9 i _ 1 16 Tryd.underlying27 hi hz hsize hby rfl (by decide) v l.length (strs l) hy (hown1.alloc _) ⟨W.heap.size, 0, none⟩ 1 1 [.string s] hx rfl (news_str W s) (fun u hu => by rw [List.mem_singleton.1 hu]; rfl) (by decide) (by unfold maxLen; omega) (by omega) (by simp; omega) (W.heap.size + 1) (by simp) ?_
  intro g cap w' hown' hgrow hat _
  refine h _ w' ⟨?_, ((Below.refl base W).alloc hb _).grown hgrow (by simp; omega) (fun q hq => (hown1.lt q hq).1), fun k hk hn => ?_, ?_⟩
  · show w'.ownsRow base 9 1 _ (l ++ [s]).length (strs (l ++ [s]))
    rw [strs_append, List.length_append]
    exact hown'
  · rw [hgrow.block k (by simp; omega) (fun e => hn e.symm)]
    exact heap_alloc_old W _ hk
  · rcases hat with e | e
    · exact .inl e.symm
    · exact .inr (fun q hq => by have hq : g = q := Option.some.inj hq; omega)
theorem push_cd {i : TypeInfo} (hi : Tryd.prog.info? 25 = some i) (hz : i.zero = some (.agg #[.string ⟨#[]⟩, .bool false, .bool false, .bool false, .bool false])) (hsize : i.size = 5) (hby : i.bytes = 24)
    {base : Nat} {W : World} {v : Value} {L : List Cd} (hown : OwnC W base v L) (c : Cd) (hn : L.length ≤ 1000000) (hb : base ≤ W.heap.size)
    {ops : Array Oper} {rest : List Oper} {o : Oper} {a : Act} {Q : Exit → Act → World → Prop} (hgd : o.guard = none) (y x : Operand) (ho : o.op = .call { callee := .builtin .append, args := #[y, x], argTypes := #[22, 22] }) (hy : a.eval y = v) (bb : Nat) (hx : a.eval x = .slice (some ⟨bb, 0, none⟩) 1 1) (hbb : bb = W.heap.size)
    (h : ∀ v' w', PutC base W w' v v' (L ++ [c]) → wpList Tryd.prog ops Q rest (a.put o.dst v') w') : wpList Tryd.prog ops Q (o :: rest) a (W.alloc (.cells #[.string c.app, .bool c.c, .bool c.v, .bool c.l, .bool c.o] 25)) := by
  rw [hbb] at hx
  have hown1 : W.ownsRow base 25 5 v L.length (flat L) := hown
  refine wpList_append_lies _ hgd y x 22 ho base 25 i _ 5 24 Tryd.underlying22 hi hz hsize hby rfl (by decide) v L.length (flat L) hy (hown1.alloc _) ⟨W.heap.size, 0, none⟩ 1 1 (enc c) hx rfl (news_cd W c) (fun u hu => flat_cells [c] u (by rw [flat_one]; exact hu)) (by decide) (by unfold maxLen; omega) (by omega) (by simp; omega) (W.heap.size + 1) (by simp) ?_
  intro g cap w' hown' hgrow hat _
  refine h _ w' ⟨?_, ((Below.refl base W).alloc hb _).grown hgrow (by simp; omega) (fun q hq => (hown1.lt q hq).1), fun k hk hn => ?_, ?_⟩
  · show w'.ownsRow base 25 5 _ (L ++ [c]).length (flat (L ++ [c]))
    rw [flat_append, flat_one, List.length_append]
    exact hown'
  · rw [hgrow.block k (by simp; omega) (fun e => hn e.symm)]
    exact heap_alloc_old W _ hk
  · rcases hat with e | e
    · exact .inl e.symm
    · exact .inr (fun q hq => by have hq : g = q := Option.some.inj hq; omega)

theorem cds_source {w : World} {ad : Addr} {n cap : Nat} {L : List Cd} (h : CdsIn w (.slice (some ad) n cap) L) : ∀ j u, (flat L)[j]? = some u → w.cell? (ad.add j) = some u := by
  intro j u hu
  have hl : j < L.length * 5 := by rw [← flat_len]; exact (List.getElem?_eq_some_iff.1 hu).1
  obtain ⟨e, -, -, hc⟩ := h.at
  obtain ⟨b, o, hb, hcd⟩ := hc (j / 5) (by omega)
  cases hb
  have q : j = j / 5 * 5 + j % 5 := by omega
  rw [q, flat_at L (j / 5) (j % 5) (by omega) (Nat.mod_lt _ (by omega))] at hu
  have := hcd.get (j % 5) u hu
  rw [show (Addr.add ⟨b, o, none⟩ j : Addr) = ⟨b, o + j, none⟩ by simp [Addr.add]]
  rwa [show o + j / 5 * 5 + j % 5 = o + j by omega] at this
/-- An append of a whole slice of candidates. -/
theorem append_cds {i : TypeInfo} (hi : Tryd.prog.info? 25 = some i) (hz : i.zero = some (.agg #[.string ⟨#[]⟩, .bool false, .bool false, .bool false, .bool false])) (hsize : i.size = 5) (hby : i.bytes = 24)
    {base : Nat} {W : World} {v : Value} {L M : List Cd} (hown : OwnC W base v L) (src : Option Addr) (m c : Nat) (hM : CdsIn W (.slice src m c) M) (hnil : src = none → c = 0) (hn : L.length ≤ 1000000) (hm : M.length ≤ 1000000) (hb : base ≤ W.heap.size)
    {ops : Array Oper} {rest : List Oper} {o : Oper} {a : Act} {Q : Exit → Act → World → Prop} (hgd : o.guard = none) (y x : Operand) (ho : o.op = .call { callee := .builtin .append, args := #[y, x], argTypes := #[22, 22] }) (hy : a.eval y = v) (hx : a.eval x = .slice src m c)
    (h : ∀ v' w', OwnC w' base v' (L ++ M) → Below base W w' → Others v W w' → wpList Tryd.prog ops Q rest (a.put o.dst v') w') : wpList Tryd.prog ops Q (o :: rest) a W := by
  have hown1 : W.ownsRow base 25 5 v L.length (flat L) := hown
  obtain ⟨e, -, -, -⟩ := hM.at
  cases src with
  | none =>
    obtain rfl := hnil rfl
    have h0 : M = [] := by
      cases M with
      | nil => rfl
      | cons x M =>
        obtain ⟨-, -, -, hc⟩ := hM.at
        obtain ⟨b, o, hb, -⟩ := hc 0 (by rw [e]; exact Nat.succ_pos _)
        cases hb
    subst h0
    obtain rfl : m = 0 := e
    refine wpList_append_own_none hgd y x 22 ho base 25 i 5 Tryd.underlying22 hi v L.length (flat L) hy hown1 hx ?_
    exact h v W (by rw [List.append_nil]; exact hown) (Below.refl _ _) (fun _ _ _ => rfl)
  | some ad =>
    refine wpList_append_own _ hgd y x 22 ho base 25 i _ 5 24 Tryd.underlying22 hi hz hsize hby rfl (by decide) v L.length (flat L) hy hown1 ad m c (flat M) hx (by rw [flat_len, e]) (cds_source hM) (flat_cells M) (by unfold maxLen; omega) (by omega) hb ?_
    intro v' w' hown' hgrow _
    refine h v' w' ?_ ((Below.refl base W).grown hgrow hb (fun q hq => (hown1.lt q hq).1)) (fun k hk hn => hgrow.block k hk (fun e => hn e.symm))
    show w'.ownsRow base 25 5 _ (L ++ M).length (flat (L ++ M))
    rw [flat_append, List.length_append, ← e]
    exact hown'
theorem strs_source {w : World} {ad : Addr} {n cap : Nat} {l : List ByteArray} (h : StrsIn w (.slice (some ad) n cap) l) : ∀ j u, (strs l)[j]? = some u → w.cell? (ad.add j) = some u := by
  intro j u hu
  have hl : j < l.length := by rw [← strs_len]; exact (List.getElem?_eq_some_iff.1 hu).1
  obtain ⟨e, -, -, hc⟩ := h.at
  obtain ⟨b, o, hb, hcd⟩ := hc j (by omega)
  cases hb
  rw [strs_get l j hl] at hu
  rw [show (Addr.add ⟨b, o, none⟩ j : Addr) = ⟨b, o + j, none⟩ by simp [Addr.add], hcd]
  exact hu
/-- An append of a whole slice of texts. -/
theorem append_strs {i : TypeInfo} (hi : Tryd.prog.info? 9 = some i) (hz : i.zero = some (.string ⟨#[]⟩)) (hsize : i.size = 1) (hby : i.bytes = 16)
    {base : Nat} {W : World} {v : Value} {L M : List ByteArray} (hown : OwnS W base v L) (src : Option Addr) (m c : Nat) (hM : StrsIn W (.slice src m c) M) (hnil : src = none → c = 0) (hn : L.length ≤ 1000000) (hm : M.length ≤ 1000000) (hb : base ≤ W.heap.size)
    {ops : Array Oper} {rest : List Oper} {o : Oper} {a : Act} {Q : Exit → Act → World → Prop} (hgd : o.guard = none) (y x : Operand) (ho : o.op = .call { callee := .builtin .append, args := #[y, x], argTypes := #[27, 27] }) (hy : a.eval y = v) (hx : a.eval x = .slice src m c)
    (h : ∀ v' w', OwnS w' base v' (L ++ M) → Below base W w' → Others v W w' → wpList Tryd.prog ops Q rest (a.put o.dst v') w') : wpList Tryd.prog ops Q (o :: rest) a W := by
  have hown1 : W.ownsRow base 9 1 v L.length (strs L) := hown
  obtain ⟨e, -, -, -⟩ := hM.at
  cases src with
  | none =>
    obtain rfl := hnil rfl
    have h0 : M = [] := by
      cases M with
      | nil => rfl
      | cons x M =>
        obtain ⟨-, -, -, hc⟩ := hM.at
        obtain ⟨b, o, hb, -⟩ := hc 0 (by rw [e]; exact Nat.succ_pos _)
        cases hb
    subst h0
    obtain rfl : m = 0 := e
    refine wpList_append_own_none hgd y x 27 ho base 9 i 1 Tryd.underlying27 hi v L.length (strs L) hy hown1 hx ?_
    exact h v W (by rw [List.append_nil]; exact hown) (Below.refl _ _) (fun _ _ _ => rfl)
  | some ad =>
    refine wpList_append_own _ hgd y x 27 ho base 9 i _ 1 16 Tryd.underlying27 hi hz hsize hby rfl (by decide) v L.length (strs L) hy hown1 ad m c (strs M) hx (by rw [strs_len, e, Nat.mul_one]) (strs_source hM) (strs_cells M) (by unfold maxLen; omega) (by omega) hb ?_
    intro v' w' hown' hgrow _
    refine h v' w' ?_ ((Below.refl base W).grown hgrow hb (fun q hq => (hown1.lt q hq).1)) (fun k hk hn => hgrow.block k hk (fun e => hn e.symm))
    show w'.ownsRow base 9 1 _ (L ++ M).length (strs (L ++ M))
    rw [strs_append, List.length_append, ← e]
    exact hown'
end Go.Proofs.YtmgdkdohadaknaaDoor.pick
