/- Slices of parts: what they hold. -/
import Derived.Test.YtjijdaheabgphaaDoorGpMath
import Derived.Test.YtjijdaheabgphaaDoorGlRow
import Derived.Laws.AppendOwn
import Derived.Laws.OwnMore
set_option linter.unusedSimpArgs false
set_option linter.unusedVariables false
namespace Go.Proofs.YtjijdaheabgphaaDoor.gparts
open Go.RowKit Go.Proofs.YtjijdaheabgphaaDoor.errs Go.Proofs.YtjijdaheabgphaaDoor.rows

/-- A part's cells. -/
def enc (p : Pt) : List Value := [.int .i32 p.char, .bool p.free, .bool p.many]
def flat (ps : List Pt) : List Value := ps.flatMap enc
theorem flat_append (a b : List Pt) : flat (a ++ b) = flat a ++ flat b := List.flatMap_append
theorem flat_one (p : Pt) : flat [p] = enc p := by simp [flat]
theorem flat_length : ∀ ps : List Pt, (flat ps).length = ps.length * 3
  | [] => rfl
  | x :: ps => by
    have := flat_length ps
    unfold flat at this ⊢
    rw [List.flatMap_cons, List.length_append, this, List.length_cons]
    show 3 + _ = _
    omega
theorem flat_at : ∀ (ps : List Pt) (j i : Nat), j < ps.length → i < 3 → (flat ps)[j * 3 + i]? = (enc (at_ ps j))[i]?
  | [], j, i, h, _ => absurd h (Nat.not_lt_zero _)
  | x :: ps, 0, i, _, hi => by
    unfold flat
    rw [List.flatMap_cons, List.getElem?_append_left (by show _ < 3; omega)]
    simp [at_]
  | x :: ps, j + 1, i, h, hi => by
    have := flat_at ps j i (by simpa using h) hi
    unfold flat at this ⊢
    rw [List.flatMap_cons, List.getElem?_append_right (by show 3 ≤ _; omega), show (enc x).length = 3 from rfl, show (j + 1) * 3 + i - 3 = j * 3 + i by omega, this]
    simp [at_]
theorem flat_cells (ps : List Pt) : ∀ u ∈ flat ps, u.oneCell' = true := by
  intro u hu
  obtain ⟨p, -, hp⟩ := List.mem_flatMap.1 hu
  simp [enc] at hp
  rcases hp with rfl | rfl | rfl <;> rfl

/-- A part in memory. -/
def PtAt (w : World) (b o : Nat) (p : Pt) : Prop := w.cell? ⟨b, o, none⟩ = some (.int .i32 p.char) ∧ w.cell? ⟨b, o + 1, none⟩ = some (.bool p.free) ∧ w.cell? ⟨b, o + 2, none⟩ = some (.bool p.many)
theorem PtAt.below {w w' : World} {b o : Nat} {p : Pt} (h : PtAt w b o p) (hb : Below w.heap.size w w') : PtAt w' b o p :=
  ⟨(hb.cell (p := ⟨b, o, none⟩) (lt_of_cell h.1)).trans h.1, (hb.cell (p := ⟨b, o + 1, none⟩) (lt_of_cell h.2.1)).trans h.2.1, (hb.cell (p := ⟨b, o + 2, none⟩) (lt_of_cell h.2.2)).trans h.2.2⟩
/-- A slice that holds parts. -/
def PartsIn (w : World) (v : Value) (ps : List Pt) : Prop :=
  ∃ a cap, v = .slice a ps.length cap ∧ ps.length ≤ cap ∧ cap ≤ 9223372036854775807 ∧ (0 < ps.length → ∃ b, a = some ⟨b, 0, none⟩ ∧ ∀ j, j < ps.length → PtAt w b (j * 3) (at_ ps j))
theorem PartsIn.below {w w' : World} {v : Value} {ps : List Pt} (h : PartsIn w v ps) (hb : Below w.heap.size w w') : PartsIn w' v ps := by
  obtain ⟨a, cap, rfl, h1, h2, h3⟩ := h
  refine ⟨a, cap, rfl, h1, h2, fun h => ?_⟩
  obtain ⟨b, rfl, hB⟩ := h3 h
  exact ⟨b, rfl, fun j hj => (hB j hj).below hb⟩
theorem own_parts {w : World} {B : Nat} {v : Value} {ps : List Pt} (h : w.ownsRow B 51 3 v ps.length (flat ps)) : PartsIn w v ps := by
  rcases h.2 with ⟨rfl, hn⟩ | ⟨g, cap, cur, rfl, hB, hg, hn, hm, hs, ht⟩
  · have hz : ps = [] := List.length_eq_zero_iff.1 hn
    subst hz
    exact ⟨none, 0, rfl, Nat.le_refl _, by omega, fun h => absurd h (by decide)⟩
  · refine ⟨_, cap, rfl, hn, by unfold maxLen at hm; omega, fun _ => ⟨g, rfl, fun j hj => ⟨?_, ?_, ?_⟩⟩⟩
    · have := h.cellAt (j * 3 + 0) (by omega)
      rw [flat_at ps j 0 hj (by omega)] at this
      exact this
    · have := h.cellAt (j * 3 + 1) (by omega)
      rw [flat_at ps j 1 hj (by omega)] at this
      exact this
    · have := h.cellAt (j * 3 + 2) (by omega)
      rw [flat_at ps j 2 hj (by omega)] at this
      exact this

theorem PartsIn.at {w : World} {a : Option Addr} {n cap : Nat} {ps : List Pt} (h : PartsIn w (.slice a n cap) ps) {k : Nat} (hk : k < n) : ∃ b, a = some ⟨b, 0, none⟩ ∧ PtAt w b (k * 3) (at_ ps k) := by
  obtain ⟨a', cap', ev, -, -, q⟩ := h
  simp only [Value.slice.injEq] at ev
  obtain ⟨rfl, rfl, rfl⟩ := ev
  obtain ⟨b, rfl, hB⟩ := q (by omega)
  exact ⟨b, rfl, hB k hk⟩

theorem infoPart : (Tryd.prog.info? 51).map (fun i => (i.zero, i.size, i.bytes)) = some (some (.agg #[.int .i32 0, .bool false, .bool false]), 3, 8) := by kernel_rfl
end Go.Proofs.YtjijdaheabgphaaDoor.gparts
