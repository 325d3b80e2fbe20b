/- Slices of texts and of candidates in memory; answers. -/
import Derived.Test.YtmgdkdohadaknaaDoorWrBlk
import Derived.Test.YtmgdkdohadaknaaDoorPkMath
set_option linter.unusedSimpArgs false
set_option linter.unusedVariables false
namespace Go.Proofs.YtmgdkdohadaknaaDoor.pick
open Go.RowKit Go.Proofs.YtmgdkdohadaknaaDoor.errs

/-- A slice that holds texts. -/
def StrsIn (w : World) (v : Value) (l : List ByteArray) : Prop :=
  ∃ a cap, v = .slice a l.length cap ∧ l.length ≤ cap ∧ cap ≤ 9223372036854775807 ∧ (0 < l.length → ∃ b o, a = some ⟨b, o, none⟩ ∧ ∀ j, j < l.length → w.cell? ⟨b, o + j, none⟩ = some (.string (l.getD j ⟨#[]⟩)))
theorem StrsIn.below {w w' : World} {v : Value} {l : List ByteArray} (h : StrsIn w v l) (hb : Keeps w w') : StrsIn w' v l := by
  obtain ⟨a, cap, rfl, h1, h2, h3⟩ := h
  refine ⟨a, cap, rfl, h1, h2, fun h => ?_⟩
  obtain ⟨b, o, rfl, hB⟩ := h3 h
  exact ⟨b, o, rfl, fun j hj => (hb.cell (p := ⟨b, o + j, none⟩) (lt_of_cell (hB j hj))).trans (hB j hj)⟩
theorem StrsIn.at {w : World} {a : Option Addr} {n cap : Nat} {l : List ByteArray} (h : StrsIn w (.slice a n cap) l) : n = l.length ∧ n ≤ cap ∧ cap ≤ 9223372036854775807 ∧ ∀ k, k < n → ∃ b o, a = some ⟨b, o, none⟩ ∧ w.cell? ⟨b, o + k, none⟩ = some (.string (l.getD k ⟨#[]⟩)) := by
  obtain ⟨a', cap', ev, h1, h2, q⟩ := h
  simp only [Value.slice.injEq] at ev
  obtain ⟨rfl, rfl, rfl⟩ := ev
  refine ⟨rfl, h1, h2, fun k hk => ?_⟩
  obtain ⟨b, o, rfl, hB⟩ := q (by omega)
  exact ⟨b, o, rfl, hB k hk⟩
theorem strsIn_nil (w : World) : StrsIn w (.slice none 0 0) [] := ⟨none, 0, rfl, Nat.le_refl _, by omega, fun h => absurd h (Nat.not_lt_zero _)⟩
theorem StrsIn.form {w : World} {v : Value} {l : List ByteArray} (h : StrsIn w v l) : ∃ a cap, v = .slice a l.length cap := by obtain ⟨a, cap, e, -⟩ := h; exact ⟨a, cap, e⟩

/-- Texts as values. -/
def strs (l : List ByteArray) : List Value := l.map Value.string
theorem strs_append (a b : List ByteArray) : strs (a ++ b) = strs a ++ strs b := List.map_append
theorem strs_len (l : List ByteArray) : (strs l).length = l.length := List.length_map _
theorem strs_get (l : List ByteArray) (j : Nat) (h : j < l.length) : (strs l)[j]? = some (.string (l.getD j ⟨#[]⟩)) := by
  unfold strs
  rw [List.getElem?_map, List.getElem?_eq_getElem h, List.getD_eq_getElem?_getD, List.getElem?_eq_getElem h]
  rfl
theorem strs_cells (l : List ByteArray) : ∀ u ∈ strs l, u.oneCell' = true := by
  intro u hu
  obtain ⟨s, -, rfl⟩ := List.mem_map.1 hu
  rfl
/-- A slice of texts of the call's own. -/
def OwnS (w : World) (B : Nat) (v : Value) (l : List ByteArray) : Prop := w.ownsRow B 9 1 v l.length (strs l)
theorem OwnS.reads {w : World} {B : Nat} {v : Value} {l : List ByteArray} (h : OwnS w B v l) : StrsIn w v l := by
  have hh : w.ownsRow B 9 1 v l.length (strs l) := h
  rcases h.2 with ⟨rfl, hn⟩ | ⟨g, cap, cur, rfl, h1, h2, h3, h4, h5, h6⟩
  · obtain rfl := List.length_eq_zero_iff.1 hn
    exact strsIn_nil w
  · refine ⟨_, cap, rfl, h3, by unfold maxLen at h4; omega, fun _ => ⟨g, 0, rfl, fun j hj => ?_⟩⟩
    have := hh.cellAt j (by omega)
    rw [strs_get l j hj] at this
    rw [Nat.zero_add]
    exact this
theorem OwnS.kept {w w' : World} {B : Nat} {v : Value} {l : List ByteArray} (h : OwnS w B v l) (hb : Keeps w w') : OwnS w' B v l := by
  refine ⟨h.1, h.2.imp id ?_⟩
  rintro ⟨g, cap, cur, e, h1, h2, h3⟩
  exact ⟨g, cap, cur, e, h1, (hb.block g (Array.getElem?_eq_some_iff.1 h2).1).trans h2, h3⟩
theorem OwnS.mono {w : World} {B B' : Nat} {v : Value} {l : List ByteArray} (h : OwnS w B v l) (hB : B' ≤ B) : OwnS w B' v l := by
  refine ⟨h.1, h.2.imp id ?_⟩
  rintro ⟨g, cap, cur, e, h1, h2, h3⟩
  exact ⟨g, cap, cur, e, Nat.le_trans hB h1, h2, h3⟩
theorem OwnS.form {w : World} {B : Nat} {v : Value} {l : List ByteArray} (h : OwnS w B v l) : ∃ a cap, v = .slice a l.length cap := h.reads.form
theorem ownS_nil (w : World) (B : Nat) : OwnS w B (.slice none 0 0) [] := World.ownsRow_nil _ _ _ _
theorem infoText : (Tryd.prog.info? 9).map (fun i => (i.zero, i.size, i.bytes)) = some (some (.string ⟨#[]⟩), 1, 16) := by kernel_rfl

/-- A candidate's cells. -/
def enc (x : Cd) : List Value := [.string x.app, .bool x.c, .bool x.v, .bool x.l, .bool x.o]
abbrev arr (x : Cd) : Array Value := #[.string x.app, .bool x.c, .bool x.v, .bool x.l, .bool x.o]
def flat (L : List Cd) : List Value := L.flatMap enc
theorem flat_append (a b : List Cd) : flat (a ++ b) = flat a ++ flat b := List.flatMap_append
theorem flat_one (x : Cd) : flat [x] = enc x := by simp [flat]
theorem flat_len : ∀ L : List Cd, (flat L).length = L.length * 5
  | [] => rfl
  | x :: L => by
    have := flat_len L
    unfold flat at this ⊢
    rw [List.flatMap_cons, List.length_append, this, List.length_cons]
    show 5 + _ = _
    omega
def cdAt (L : List Cd) (j : Nat) : Cd := L.getD j noCd
theorem flat_at : ∀ (L : List Cd) (j i : Nat), j < L.length → i < 5 → (flat L)[j * 5 + i]? = (enc (cdAt L j))[i]?
  | [], j, i, h, _ => absurd h (Nat.not_lt_zero _)
  | x :: L, 0, i, _, hi => by
    unfold flat
    rw [List.flatMap_cons, List.getElem?_append_left (by show _ < 5; omega)]
    simp [cdAt]
  | x :: L, j + 1, i, h, hi => by
    have := flat_at L j i (by simpa using h) hi
    unfold flat at this ⊢
    rw [List.flatMap_cons, List.getElem?_append_right (by show 5 ≤ _; omega), show (enc x).length = 5 from rfl, show (j + 1) * 5 + i - 5 = j * 5 + i by omega, this]
    simp [cdAt]
theorem flat_cells (L : List Cd) : ∀ u ∈ flat L, u.oneCell' = true := by
  intro u hu
  obtain ⟨p, -, hp⟩ := List.mem_flatMap.1 hu
  simp [enc] at hp
  rcases hp with rfl | rfl | rfl | rfl | rfl <;> rfl
/-- A candidate in memory. -/
def CdAt (w : World) (b o : Nat) (x : Cd) : Prop := w.cell? ⟨b, o, none⟩ = some (.string x.app) ∧ w.cell? ⟨b, o + 1, none⟩ = some (.bool x.c) ∧ w.cell? ⟨b, o + 2, none⟩ = some (.bool x.v) ∧ w.cell? ⟨b, o + 3, none⟩ = some (.bool x.l) ∧ w.cell? ⟨b, o + 4, none⟩ = some (.bool x.o)
theorem CdAt.below {w w' : World} {b o : Nat} {x : Cd} (h : CdAt w b o x) (hb : Keeps w w') : CdAt w' b o x :=
  ⟨(hb.cell (p := ⟨b, o, none⟩) (lt_of_cell h.1)).trans h.1, (hb.cell (p := ⟨b, o + 1, none⟩) (lt_of_cell h.2.1)).trans h.2.1, (hb.cell (p := ⟨b, o + 2, none⟩) (lt_of_cell h.2.2.1)).trans h.2.2.1, (hb.cell (p := ⟨b, o + 3, none⟩) (lt_of_cell h.2.2.2.1)).trans h.2.2.2.1, (hb.cell (p := ⟨b, o + 4, none⟩) (lt_of_cell h.2.2.2.2)).trans h.2.2.2.2⟩
theorem CdAt.get {w : World} {b o : Nat} {x : Cd} (h : CdAt w b o x) : ∀ i v, (enc x)[i]? = some v → w.cell? ⟨b, o + i, none⟩ = some v
  | 0, v, hi => by obtain rfl : _ = v := Option.some.inj hi; exact h.1
  | 1, v, hi => by obtain rfl : _ = v := Option.some.inj hi; exact h.2.1
  | 2, v, hi => by obtain rfl : _ = v := Option.some.inj hi; exact h.2.2.1
  | 3, v, hi => by obtain rfl : _ = v := Option.some.inj hi; exact h.2.2.2.1
  | 4, v, hi => by obtain rfl : _ = v := Option.some.inj hi; exact h.2.2.2.2
  | n + 5, v, hi => by simp [enc] at hi
/-- A slice that holds candidates. -/
def CdsIn (w : World) (v : Value) (L : List Cd) : Prop :=
  ∃ a cap, v = .slice a L.length cap ∧ L.length ≤ cap ∧ cap ≤ 9223372036854775807 ∧ (0 < L.length → ∃ b o, a = some ⟨b, o, none⟩ ∧ ∀ j, j < L.length → CdAt w b (o + j * 5) (cdAt L j))
theorem CdsIn.below {w w' : World} {v : Value} {L : List Cd} (h : CdsIn w v L) (hb : Keeps w w') : CdsIn w' v L := by
  obtain ⟨a, cap, rfl, h1, h2, h3⟩ := h
  refine ⟨a, cap, rfl, h1, h2, fun h => ?_⟩
  obtain ⟨b, o, rfl, hB⟩ := h3 h
  exact ⟨b, o, rfl, fun j hj => (hB j hj).below hb⟩
theorem cdsIn_nil (w : World) : CdsIn w (.slice none 0 0) [] := ⟨none, 0, rfl, Nat.le_refl _, by omega, fun h => absurd h (Nat.not_lt_zero _)⟩
theorem CdsIn.at {w : World} {a : Option Addr} {n cap : Nat} {L : List Cd} (h : CdsIn w (.slice a n cap) L) : n = L.length ∧ n ≤ cap ∧ cap ≤ 9223372036854775807 ∧ ∀ k, k < n → ∃ b o, a = some ⟨b, o, none⟩ ∧ CdAt w b (o + k * 5) (cdAt L k) := by
  obtain ⟨a', cap', ev, h1, h2, q⟩ := h
  simp only [Value.slice.injEq] at ev
  obtain ⟨rfl, rfl, rfl⟩ := ev
  refine ⟨rfl, h1, h2, fun k hk => ?_⟩
  obtain ⟨b, o, rfl, hB⟩ := q (by omega)
  exact ⟨b, o, rfl, hB k hk⟩
theorem CdsIn.form {w : World} {v : Value} {L : List Cd} (h : CdsIn w v L) : ∃ a cap, v = .slice a L.length cap := by obtain ⟨a, cap, e, -⟩ := h; exact ⟨a, cap, e⟩
/-- A slice of candidates of the call's own. -/
def OwnC (w : World) (B : Nat) (v : Value) (L : List Cd) : Prop := w.ownsRow B 25 5 v L.length (flat L)
theorem OwnC.reads {w : World} {B : Nat} {v : Value} {L : List Cd} (h : OwnC w B v L) : CdsIn w v L := by
  have hh : w.ownsRow B 25 5 v L.length (flat L) := h
  rcases h.2 with ⟨rfl, hn⟩ | ⟨g, cap, cur, rfl, h1, h2, h3, h4, h5, h6⟩
  · obtain rfl := List.length_eq_zero_iff.1 hn
    exact cdsIn_nil w
  · refine ⟨_, cap, rfl, h3, by unfold maxLen at h4; omega, fun _ => ⟨g, 0, rfl, fun j hj => ?_⟩⟩
    rw [Nat.zero_add]
    have e : ∀ i, i < 5 → w.cell? ⟨g, j * 5 + i, none⟩ = (enc (cdAt L j))[i]? := fun i hi => by
      have := hh.cellAt (j * 5 + i) (by omega)
      rw [flat_at L j i hj hi] at this
      exact this
    exact ⟨e 0 (by omega), e 1 (by omega), e 2 (by omega), e 3 (by omega), e 4 (by omega)⟩
theorem OwnC.kept {w w' : World} {B : Nat} {v : Value} {L : List Cd} (h : OwnC w B v L) (hb : Keeps w w') : OwnC w' B v L := by
  refine ⟨h.1, h.2.imp id ?_⟩
  rintro ⟨g, cap, cur, e, h1, h2, h3⟩
  exact ⟨g, cap, cur, e, h1, (hb.block g (Array.getElem?_eq_some_iff.1 h2).1).trans h2, h3⟩
theorem OwnC.mono {w : World} {B B' : Nat} {v : Value} {L : List Cd} (h : OwnC w B v L) (hB : B' ≤ B) : OwnC w B' v L := by
  refine ⟨h.1, h.2.imp id ?_⟩
  rintro ⟨g, cap, cur, e, h1, h2, h3⟩
  exact ⟨g, cap, cur, e, Nat.le_trans hB h1, h2, h3⟩
theorem OwnC.form {w : World} {B : Nat} {v : Value} {L : List Cd} (h : OwnC w B v L) : ∃ a cap, v = .slice a L.length cap := h.reads.form
theorem ownC_nil (w : World) (B : Nat) : OwnC w B (.slice none 0 0) [] := World.ownsRow_nil _ _ _ _
theorem infoCd : (Tryd.prog.info? 25).map (fun i => (i.zero, i.size, i.bytes)) = some (some (.agg #[.string ⟨#[]⟩, .bool false, .bool false, .bool false, .bool false]), 5, 24) := by kernel_rfl

/-- A value is an answer. -/
def AnsV (w : World) (v : Value) (x : An) : Prop := ∃ s, v = .agg #[.int .i64 x.kind, s, .int .i64 x.why] ∧ StrsIn w s x.apps
theorem AnsV.below {w w' : World} {v : Value} {x : An} (h : AnsV w v x) (hb : Keeps w w') : AnsV w' v x := by
  obtain ⟨s, rfl, h⟩ := h
  exact ⟨s, rfl, h.below hb⟩
/-- A value is an answer whose texts lie in a block of the call's own. -/
def AnsO (w : World) (B : Nat) (v : Value) (x : An) : Prop := ∃ s, v = .agg #[.int .i64 x.kind, s, .int .i64 x.why] ∧ OwnS w B s x.apps
theorem AnsO.ans {w : World} {B : Nat} {v : Value} {x : An} (h : AnsO w B v x) : AnsV w v x := by
  obtain ⟨s, rfl, h⟩ := h
  exact ⟨s, rfl, h.reads⟩
end Go.Proofs.YtmgdkdohadaknaaDoor.pick
