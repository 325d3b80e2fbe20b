/- Slices of fingerprints: what they hold; append to one of the call's own. -/
import Derived.Test.YtmaigbfmbhknhaaDoorPrEq
import Derived.Laws.AppendOwn
import Derived.Laws.OwnMore
import Derived.Laws.AppendOwnNone
import Derived.Deep.LoopGhost
namespace Go.Proofs.YtmaigbfmbhknhaaDoor.prints
open Go.RowKit Go.Proofs.YtmaigbfmbhknhaaDoor.errs

/-- Fingerprints' cells, one behind the other. -/
def flat (zs : List Pr) : List Value := zs.flatMap enc
theorem flat_append (a b : List Pr) : flat (a ++ b) = flat a ++ flat b := List.flatMap_append
theorem flat_length : ∀ zs : List Pr, (flat zs).length = zs.length * 32
  | [] => rfl
  | x :: zs => by
    have := flat_length zs
    unfold flat at this ⊢
    rw [List.flatMap_cons, List.length_append, enc_length, this, List.length_cons]; omega
theorem flat_at : ∀ (zs : List Pr) (j i : Nat), j < zs.length → i < 32 → (flat zs)[j * 32 + i]? = (enc zs[j]!)[i]?
  | [], j, i, h, _ => absurd h (Nat.not_lt_zero _)
  | x :: zs, 0, i, _, hi => by
    unfold flat
    rw [List.flatMap_cons, List.getElem?_append_left (by rw [enc_length]; omega)]
    simp
  | x :: zs, j + 1, i, h, hi => by
    have := flat_at zs j i (by simpa using h) hi
    unfold flat at this ⊢
    rw [List.flatMap_cons, List.getElem?_append_right (by rw [enc_length]; omega), enc_length, show (j + 1) * 32 + i - 32 = j * 32 + i by omega, this]
    simp
theorem flat_one (zs : List Pr) : ∀ u ∈ flat zs, u.oneCell' = true := by
  intro u hu
  obtain ⟨p, -, hp⟩ := List.mem_flatMap.1 hu
  exact enc_one p u hp

/-- A slice that holds fingerprints. -/
def Row (w : World) (v : Value) (zs : List Pr) : Prop :=
  ∃ a cap, v = .slice a zs.length cap ∧ zs.length ≤ cap ∧ cap ≤ 9223372036854775807 ∧ (a = none → cap = 0) ∧ (0 < zs.length → ∃ b off, a = some ⟨b, off, none⟩ ∧ ∀ j, j < zs.length → At32 w b (off + j * 32) zs[j]!)
theorem at32_lt {w : World} {b off : Nat} {p : Pr} (h : At32 w b off p) : b < w.heap.size := lt_of_cell (h.cell (i := 0) (by omega))
theorem Row.below {w w' : World} {v : Value} {zs : List Pr} (h : Row w v zs) (hb : Keeps w w') : Row w' v zs := by
  obtain ⟨a, cap, rfl, h1, h2, h3, h4⟩ := h
  refine ⟨a, cap, rfl, h1, h2, h3, fun h => ?_⟩
  obtain ⟨b, off, rfl, hB⟩ := h4 h
  exact ⟨b, off, rfl, fun j hj => (hB j hj).below hb (Nat.le_refl _)⟩

/-- Where an append reads from. -/
def Source (w : World) (a : Option Addr) (len cap : Nat) (news : List Value) : Prop :=
  (a = none ∧ len = 0 ∧ cap = 0) ∨ ∃ ad, a = some ad ∧ ∀ (j : Nat) u, news[j]? = some u → w.cell? (ad.add j) = some u
theorem Source.below {w w' : World} {a : Option Addr} {len cap : Nat} {news : List Value} (h : Source w a len cap news) (hb : Keeps w w') : Source w' a len cap news := by
  rcases h with h | ⟨ad, h1, h2⟩
  · exact .inl h
  · exact .inr ⟨ad, h1, fun j u hu => by
      have h3 := h2 j u hu
      exact (hb.cell (lt_of_cell h3)).trans h3⟩
theorem flat_cell {w : World} {b off : Nat} {zs : List Pr} (h : ∀ j, j < zs.length → At32 w b (off + j * 32) zs[j]!) (k : Nat) (u : Value) (hu : (flat zs)[k]? = some u) : w.cell? ⟨b, off + k, none⟩ = some u := by
  have hk : k < zs.length * 32 := by
    rcases Nat.lt_or_ge k (zs.length * 32) with h | h
    · exact h
    · rw [List.getElem?_eq_none (by rw [flat_length]; exact h)] at hu; cases hu
  have hj : k / 32 < zs.length := by omega
  have e : k = k / 32 * 32 + k % 32 := by omega
  rw [e, flat_at zs _ _ hj (Nat.mod_lt _ (by omega))] at hu
  have := h (k / 32) hj (k % 32) u hu
  rwa [show off + k / 32 * 32 + k % 32 = off + k by omega] at this
theorem Row.source {w : World} {a : Option Addr} {m c : Nat} {zs : List Pr} (h : Row w (.slice a m c) zs) : zs.length = m ∧ Source w a m c (flat zs) := by
  obtain ⟨a', cap, hv, h1, h2, h3, h4⟩ := h
  simp only [Value.slice.injEq] at hv
  obtain ⟨rfl, rfl, rfl⟩ := hv
  refine ⟨rfl, ?_⟩
  by_cases h0 : 0 < zs.length
  · obtain ⟨b, off, rfl, hB⟩ := h4 h0
    refine .inr ⟨_, rfl, fun k u hu => ?_⟩
    rw [show (Addr.add ⟨b, off, none⟩ k : Addr) = ⟨b, off + k, none⟩ by simp [Addr.add]]
    exact flat_cell hB k u hu
  · have hz : zs = [] := List.length_eq_zero_iff.1 (by omega)
    subst hz
    cases a with
    | none => exact .inl ⟨rfl, rfl, h3 rfl⟩
    | some ad => exact .inr ⟨ad, rfl, fun k u hu => by simp [flat] at hu⟩

theorem own_row {w : World} {B : Nat} {v : Value} {zs : List Pr} (h : w.ownsRow B 24 32 v zs.length (flat zs)) : Row w v zs := by
  rcases h.2 with ⟨rfl, hn⟩ | ⟨g, cap, cur, rfl, hB, hg, hn, hm, hs, ht⟩
  · have hz : zs = [] := List.length_eq_zero_iff.1 hn
    subst hz
    exact ⟨none, 0, rfl, Nat.le_refl _, by omega, fun _ => rfl, fun h => absurd h (by decide)⟩
  · refine ⟨_, cap, rfl, hn, by unfold maxLen at hm; omega, fun h => (by cases h), fun _ => ⟨g, 0, rfl, fun j hj i u hi => ?_⟩⟩
    have hi32 : i < 32 := by
      rcases Nat.lt_or_ge i 32 with h | h
      · exact h
      · rw [List.getElem?_eq_none (by rw [enc_length]; exact h)] at hi; cases hi
    rw [Nat.zero_add, h.cellAt (j * 32 + i) (by omega), flat_at zs j i hj hi32]
    exact hi

theorem infoPrint : (Tryd.prog.info? 24).map (fun i => (i.zero.map (·.cells.size), i.size, i.bytes)) = some (some 32, 32, 32) := by kernel_rfl
theorem info_print : ∃ i z, Tryd.prog.info? 24 = some i ∧ i.zero = some z ∧ i.size = 32 ∧ i.bytes = 32 ∧ z.cells.size = 32 := by
  have h := infoPrint
  cases hi : Tryd.prog.info? 24 with
  | none => rw [hi] at h; cases h
  | some i =>
    rw [hi] at h
    simp only [Option.map_some, Option.some.injEq, Prod.mk.injEq] at h
    cases hz : i.zero with
    | none => rw [hz] at h; cases h.1
    | some z =>
      rw [hz] at h
      exact ⟨i, z, rfl, hz, h.2.1, h.2.2, by simpa using h.1⟩

theorem append_any {w : World} {ops : Array Oper} {rest : List Oper} {o : Oper} {a : Act} {Q : Exit → Act → World → Prop} (hgd : o.guard = none) (s x : Operand)
    (ho : o.op = .call { callee := .builtin .append, args := #[s, x], argTypes := #[22, 22] })
    (base : Nat) (v : Value) (xs : List Pr) (hs : a.eval s = v) (hown : w.ownsRow base 24 32 v xs.length (flat xs))
    (src : Option Addr) (m c : Nat) (ns : List Pr) (hx : a.eval x = .slice src m c) (hsrc : ns.length = m ∧ Source w src m c (flat ns))
    (h63 : xs.length + ns.length ≤ 100000) (hbase : base ≤ w.heap.size)
    (h : ∀ v' w', w'.ownsRow base 24 32 v' (xs ++ ns).length (flat (xs ++ ns)) → w.grownBy w' v.ownBlock → wpList Tryd.prog ops Q rest (a.put o.dst v') w') : wpList Tryd.prog ops Q (o :: rest) a w := by
  obtain ⟨i, z, hi, hz, hsize, hby, hzs⟩ := info_print
  obtain ⟨hl, hsrc⟩ := hsrc
  rcases hsrc with ⟨rfl, rfl, rfl⟩ | ⟨ad, rfl, hc⟩
  · obtain rfl : ns = [] := List.length_eq_zero_iff.1 hl
    refine wpList_append_own_none hgd s x 22 ho base 24 i 32 Tryd.underlying22 hi v xs.length (flat xs) hs hown hx ?_
    exact h v w (by simpa using hown) ⟨rfl, rfl, rfl, Nat.le_refl _, fun _ _ _ => rfl⟩
  · refine wpList_append_own _ hgd s x 22 ho base 24 i z 32 32 Tryd.underlying22 hi hz hsize hby hzs (by decide) v xs.length (flat xs) hs hown ad m c (flat ns) hx (by rw [flat_length, hl]) hc (flat_one ns) (by unfold maxLen; omega) (by omega) hbase fun v' w' h2 h3 _ => h v' w' ?_ h3
    rw [flat_append, List.length_append, hl]
    exact h2
end Go.Proofs.YtmaigbfmbhknhaaDoor.prints
