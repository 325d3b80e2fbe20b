/- Slices of parameters (name, value, whether there is one): what they hold. -/
import Derived.Test.YtelofhplpeeplaaDoorMdMath
import Derived.Test.YtelofhplpeeplaaDoorCalm
import Derived.Laws.AppendOwn
import Derived.Laws.OwnMore
set_option linter.unusedSimpArgs false
set_option linter.unusedVariables false
namespace Go.Proofs.YtelofhplpeeplaaDoor.media
open Go.RowKit Go.Proofs.YtelofhplpeeplaaDoor.errs

/-- A parameter. -/
structure It where
  name : ByteArray
  value : ByteArray
  has : Bool
def noIt : It := ⟨⟨#[]⟩, ⟨#[]⟩, false⟩
def itAt (ps : List It) (j : Nat) : It := ps.getD j noIt
/-- A parameter's cells. -/
def enc (p : It) : List Value := [.string p.name, .string p.value, .bool p.has]
def flat (ps : List It) : List Value := ps.flatMap enc
theorem flat_append (a b : List It) : flat (a ++ b) = flat a ++ flat b := List.flatMap_append
theorem flat_single (p : It) : flat [p] = enc p := by simp [flat]
theorem flat_length : ∀ ps : List It, (flat ps).length = ps.length * 3
  | [] => rfl
  | x :: ps => by
    have := flat_length ps
    unfold flat at this ⊢
    rw [List.flatMap_cons, List.length_append, this, List.length_cons]
    show 3 + _ = _
    omega
theorem flat_at : ∀ (ps : List It) (j i : Nat), j < ps.length → i < 3 → (flat ps)[j * 3 + i]? = (enc (itAt ps j))[i]?
  | [], j, i, h, _ => absurd h (Nat.not_lt_zero _)
  | x :: ps, 0, i, _, hi => by
    unfold flat
    rw [List.flatMap_cons, List.getElem?_append_left (by show _ < 3; omega)]
    simp [itAt]
  | x :: ps, j + 1, i, h, hi => by
    have := flat_at ps j i (by simpa using h) hi
    unfold flat at this ⊢
    rw [List.flatMap_cons, List.getElem?_append_right (by show 3 ≤ _; omega), show (enc x).length = 3 from rfl, show (j + 1) * 3 + i - 3 = j * 3 + i by omega, this]
    simp [itAt]
theorem flat_cells (ps : List It) : ∀ u ∈ flat ps, u.oneCell' = true := by
  intro u hu
  obtain ⟨p, -, hp⟩ := List.mem_flatMap.1 hu
  simp [enc] at hp
  rcases hp with rfl | rfl | rfl <;> rfl

/-- A parameter in memory. -/
def ItAt (w : World) (b o : Nat) (p : It) : Prop := w.cell? ⟨b, o, none⟩ = some (.string p.name) ∧ w.cell? ⟨b, o + 1, none⟩ = some (.string p.value) ∧ w.cell? ⟨b, o + 2, none⟩ = some (.bool p.has)
theorem ItAt.below {w w' : World} {b o : Nat} {p : It} (h : ItAt w b o p) (hb : Below w.heap.size w w') : ItAt w' b o p :=
  ⟨(hb.cell (p := ⟨b, o, none⟩) (lt_of_cell h.1)).trans h.1, (hb.cell (p := ⟨b, o + 1, none⟩) (lt_of_cell h.2.1)).trans h.2.1, (hb.cell (p := ⟨b, o + 2, none⟩) (lt_of_cell h.2.2)).trans h.2.2⟩
/-- A slice that holds parameters. -/
def ItemsIn (w : World) (v : Value) (ps : List It) : Prop :=
  ∃ a cap, v = .slice a ps.length cap ∧ ps.length ≤ cap ∧ cap ≤ 9223372036854775807 ∧ (0 < ps.length → ∃ b o, a = some ⟨b, o, none⟩ ∧ ∀ j, j < ps.length → ItAt w b (o + j * 3) (itAt ps j))
theorem ItemsIn.below {w w' : World} {v : Value} {ps : List It} (h : ItemsIn w v ps) (hb : Below w.heap.size w w') : ItemsIn w' v ps := by
  obtain ⟨a, cap, rfl, h1, h2, h3⟩ := h
  refine ⟨a, cap, rfl, h1, h2, fun h => ?_⟩
  obtain ⟨b, o, rfl, hB⟩ := h3 h
  exact ⟨b, o, rfl, fun j hj => (hB j hj).below hb⟩
theorem itemsIn_nil (w : World) : ItemsIn w (.slice none 0 0) [] := ⟨none, 0, rfl, Nat.le_refl _, by omega, fun h => absurd h (Nat.not_lt_zero _)⟩
theorem own_items {w : World} {B : Nat} {v : Value} {ps : List It} (h : w.ownsRow B 122 3 v ps.length (flat ps)) : ItemsIn w v ps := by
  rcases h.2 with ⟨rfl, hn⟩ | ⟨g, cap, cur, rfl, hB, hg, hn, hm, hs, ht⟩
  · have hz : ps = [] := List.length_eq_zero_iff.1 hn
    subst hz
    exact itemsIn_nil w
  · refine ⟨_, cap, rfl, hn, by unfold maxLen at hm; omega, fun _ => ⟨g, 0, rfl, fun j hj => ?_⟩⟩
    rw [Nat.zero_add]
    refine ⟨?_, ?_, ?_⟩
    · have := h.cellAt (j * 3 + 0) (by omega)
      rw [flat_at ps j 0 hj (by omega)] at this
      exact this
    · have := h.cellAt (j * 3 + 1) (by omega)
      rw [flat_at ps j 1 hj (by omega)] at this
      exact this
    · have := h.cellAt (j * 3 + 2) (by omega)
      rw [flat_at ps j 2 hj (by omega)] at this
      exact this

theorem ItemsIn.at {w : World} {a : Option Addr} {n cap : Nat} {ps : List It} (h : ItemsIn w (.slice a n cap) ps) {k : Nat} (hk : k < n) : ∃ b o, a = some ⟨b, o, none⟩ ∧ ItAt w b (o + k * 3) (itAt ps k) := by
  obtain ⟨a', cap', ev, -, -, q⟩ := h
  simp only [Value.slice.injEq] at ev
  obtain ⟨rfl, rfl, rfl⟩ := ev
  obtain ⟨b, o, rfl, hB⟩ := q (by omega)
  exact ⟨b, o, rfl, hB k hk⟩
theorem ItemsIn.len {w : World} {a : Option Addr} {n cap : Nat} {ps : List It} (h : ItemsIn w (.slice a n cap) ps) : ps.length = n ∧ n ≤ cap ∧ cap ≤ 9223372036854775807 := by
  obtain ⟨a', cap', ev, h1, h2, q⟩ := h
  simp only [Value.slice.injEq] at ev
  obtain ⟨rfl, rfl, rfl⟩ := ev
  exact ⟨rfl, h1, h2⟩

theorem infoItem : (Tryd.prog.info? 122).map (fun i => (i.zero, i.size, i.bytes)) = some (some (.agg #[.string ⟨#[]⟩, .string ⟨#[]⟩, .bool false]), 3, 40) := by kernel_rfl
end Go.Proofs.YtelofhplpeeplaaDoor.media
