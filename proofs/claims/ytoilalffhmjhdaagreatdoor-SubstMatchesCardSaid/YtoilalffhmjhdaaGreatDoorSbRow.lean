/- Slices of texts and of variables in memory; the table of the variables that there are always; slices of places. -/
import Derived.Test.YtoilalffhmjhdaaGreatDoorSbMath
import Derived.Test.YtoilalffhmjhdaaGreatDoorGlRow
import Derived.Test.YtoilalffhmjhdaaGreatDoorValid
import Derived.Laws.AppendOwn
import Derived.Laws.OwnMore
set_option linter.unusedSimpArgs false
set_option linter.unusedVariables false
namespace Go.Proofs.YtoilalffhmjhdaaGreatDoor.subst
open Go.RowKit Go.Proofs.YtoilalffhmjhdaaGreatDoor.errs Go.Proofs.YtoilalffhmjhdaaGreatDoor.rows Go.Proofs.YtoilalffhmjhdaaGreatDoor.utf

def T (l : List UInt8) : ByteArray := ⟨l.toArray⟩
theorem T_list (l : List UInt8) : (T l).data.toList = l := rfl
theorem T_size (l : List UInt8) : (T l).size = l.length := rfl
theorem T_of (s : ByteArray) : T s.data.toList = s := rfl
theorem T_inj {a b : List UInt8} : (T a = T b) = (a = b) := propext ⟨fun h => by rw [← T_list a, h, T_list], fun h => by rw [h]⟩

/-- A slice that holds texts. -/
def StrsIn (w : World) (v : Value) (l : List ByteArray) : Prop :=
  ∃ a cap, v = .slice a l.length cap ∧ l.length ≤ cap ∧ cap ≤ 9223372036854775807 ∧ (0 < l.length → ∃ b o, a = some ⟨b, o, none⟩ ∧ ∀ j, j < l.length → w.cell? ⟨b, o + j, none⟩ = some (.string (l.getD j ⟨#[]⟩)))
theorem StrsIn.below {w w' : World} {v : Value} {l : List ByteArray} (h : StrsIn w v l) (hb : Keeps w w') : StrsIn w' v l := by
  obtain ⟨a, cap, rfl, h1, h2, h3⟩ := h
  refine ⟨a, cap, rfl, h1, h2, fun h => ?_⟩
  obtain ⟨b, o, rfl, hB⟩ := h3 h
  exact ⟨b, o, rfl, fun j hj => (hb.cell (p := ⟨b, o + j, none⟩) (lt_of_cell (hB j hj))).trans (hB j hj)⟩
theorem StrsIn.at {w : World} {a : Option Addr} {n cap : Nat} {l : List ByteArray} (h : StrsIn w (.slice a n cap) l) : n = l.length ∧ n ≤ cap ∧ cap ≤ 9223372036854775807 ∧ ∀ k, k < n → ∃ b o, a = some ⟨b, o, none⟩ ∧ w.cell? ⟨b, o + k, none⟩ = some (.string (l.getD k ⟨#[]⟩)) := by
  obtain ⟨a', cap', ev, h1, h2, q⟩ := h
  simp only [Value.slice.injEq] at ev
  obtain ⟨rfl, rfl, rfl⟩ := ev
  refine ⟨rfl, h1, h2, fun k hk => ?_⟩
  obtain ⟨b, o, rfl, hB⟩ := q (by omega)
  exact ⟨b, o, rfl, hB k hk⟩
theorem strsIn_nil (w : World) : StrsIn w (.slice none 0 0) [] := ⟨none, 0, rfl, Nat.le_refl _, by omega, fun h => absurd h (Nat.not_lt_zero _)⟩

/-- A variable: its name, and its values. -/
structure Vr where
  name : ByteArray
  vals : List ByteArray
def noVr : Vr := ⟨⟨#[]⟩, []⟩
/-- A variable in memory. -/
def VrAt (w : World) (b o : Nat) (x : Vr) : Prop := w.cell? ⟨b, o, none⟩ = some (.string x.name) ∧ ∃ sv, w.cell? ⟨b, o + 1, none⟩ = some sv ∧ StrsIn w sv x.vals
theorem VrAt.below {w w' : World} {b o : Nat} {x : Vr} (h : VrAt w b o x) (hb : Keeps w w') : VrAt w' b o x := by
  obtain ⟨h1, sv, h2, h3⟩ := h
  exact ⟨(hb.cell (p := ⟨b, o, none⟩) (lt_of_cell h1)).trans h1, sv, (hb.cell (p := ⟨b, o + 1, none⟩) (lt_of_cell h2)).trans h2, h3.below hb⟩
/-- A slice that holds variables. -/
def VarsIn (w : World) (v : Value) (l : List Vr) : Prop :=
  ∃ a cap, v = .slice a l.length cap ∧ l.length ≤ cap ∧ cap ≤ 9223372036854775807 ∧ (0 < l.length → ∃ b o, a = some ⟨b, o, none⟩ ∧ ∀ j, j < l.length → VrAt w b (o + j * 2) (l.getD j noVr))
theorem VarsIn.below {w w' : World} {v : Value} {l : List Vr} (h : VarsIn w v l) (hb : Keeps w w') : VarsIn w' v l := by
  obtain ⟨a, cap, rfl, h1, h2, h3⟩ := h
  refine ⟨a, cap, rfl, h1, h2, fun h => ?_⟩
  obtain ⟨b, o, rfl, hB⟩ := h3 h
  exact ⟨b, o, rfl, fun j hj => (hB j hj).below hb⟩
theorem VarsIn.at {w : World} {a : Option Addr} {n cap : Nat} {l : List Vr} (h : VarsIn w (.slice a n cap) l) : n = l.length ∧ n ≤ cap ∧ cap ≤ 9223372036854775807 ∧ ∀ k, k < n → ∃ b o, a = some ⟨b, o, none⟩ ∧ VrAt w b (o + k * 2) (l.getD k noVr) := by
  obtain ⟨a', cap', ev, h1, h2, q⟩ := h
  simp only [Value.slice.injEq] at ev
  obtain ⟨rfl, rfl, rfl⟩ := ev
  refine ⟨rfl, h1, h2, fun k hk => ?_⟩
  obtain ⟨b, o, rfl, hB⟩ := q (by omega)
  exact ⟨b, o, rfl, hB k hk⟩
theorem VarsIn.form {w : World} {v : Value} {l : List Vr} (h : VarsIn w v l) : ∃ a cap, v = .slice a l.length cap := by obtain ⟨a, cap, e, -⟩ := h; exact ⟨a, cap, e⟩
theorem StrsIn.form {w : World} {v : Value} {l : List ByteArray} (h : StrsIn w v l) : ∃ a cap, v = .slice a l.length cap := by obtain ⟨a, cap, e, -⟩ := h; exact ⟨a, cap, e⟩

/-- The variables that there are always: the name, the spans, how many characters. -/
structure Cl where
  name : List UInt8
  spans : List UInt8
  size : Nat
def noCl : Cl := ⟨[], [], 0⟩
def clTab : List Cl := [⟨[97, 108, 112, 104, 97], [65, 90, 97, 122], 1⟩, ⟨[117, 112, 112, 101, 114], [65, 90], 1⟩, ⟨[108, 111, 119, 101, 114], [97, 122], 1⟩, ⟨[100, 105, 103, 105, 116], [48, 57], 1⟩,
  ⟨[97, 108, 110, 117, 109], [48, 57, 65, 90, 97, 122], 1⟩, ⟨[120, 100, 105, 103, 105, 116], [48, 57, 65, 70, 97, 102], 1⟩, ⟨[114, 101, 103, 105, 111, 110], [65, 90], 2⟩, ⟨[108, 97, 110, 103], [97, 122], 2⟩]
def Cl.cells (c : Cl) : List Value := [.string (T c.name), .string (T c.spans), .int .i64 (c.size : Int)]
def clCells : List Value := clTab.flatMap Cl.cells
/-- The table lies in memory. -/
def Clss (w : World) : Prop := ∀ i v, clCells[i]? = some v → w.cell? ⟨1, i, none⟩ = some v
theorem Clss.below {w w' : World} {B : Nat} (h : Clss w) (hb : Below B w w') (hB : w.heap.size ≤ B) : Clss w' := fun i v hi =>
  (hb.cell (p := ⟨1, i, none⟩) (Nat.lt_of_lt_of_le (lt_of_cell (h i v hi)) hB)).trans (h i v hi)
def classOf (nm : List UInt8) : Option Cl := clTab.find? fun c => decide (c.name = nm)
/-- The cell of the greatest length that the machine looks at whole: some number. -/
def MaxL (w : World) : Prop := ∃ m : Int, w.cell? ⟨2, 0, none⟩ = some (.int .i64 m)
theorem MaxL.below {w w' : World} {B : Nat} (h : MaxL w) (hb : Below B w w') (hB : w.heap.size ≤ B) : MaxL w' := by
  obtain ⟨m, hm⟩ := h
  exact ⟨m, (hb.cell (p := ⟨2, 0, none⟩) (Nat.lt_of_lt_of_le (lt_of_cell hm) hB)).trans hm⟩

/-- Numbers as values. -/
def nums (L : List Nat) : List Value := L.map fun n : Nat => Value.int .i64 (n : Int)
/-- A slice of places of the call's own. -/
def Nats (w : World) (B : Nat) (v : Value) (L : List Nat) : Prop := w.ownsRow B 3 1 v L.length (nums L)
theorem Nats.form {w : World} {B : Nat} {v : Value} {L : List Nat} (h : Nats w B v L) : (v = .slice none 0 0 ∧ L = []) ∨ ∃ g cap cur, v = .slice (some ⟨g, 0, none⟩) L.length cap ∧ B ≤ g ∧ w.heap[g]? = some (.cells cur 3 (0, 0)) ∧ L.length ≤ cap ∧ cap ≤ maxLen ∧ cur.size = cap ∧ cur.toList.take L.length = nums L := by
  rcases h.2 with ⟨rfl, hn⟩ | ⟨g, cap, cur, rfl, h1, h2, h3, h4, h5, h6⟩
  · exact .inl ⟨rfl, List.length_eq_zero_iff.1 hn⟩
  · exact .inr ⟨g, cap, cur, rfl, h1, h2, h3, h4, by rw [h5, Nat.mul_one], by rw [Nat.mul_one] at h6; exact h6⟩
theorem nums_get (L : List Nat) (j : Nat) (h : j < L.length) : (nums L)[j]? = some (.int .i64 ((L.getD j 0 : Nat) : Int)) := by
  unfold nums
  rw [List.getElem?_map, List.getElem?_eq_getElem h, List.getD_eq_getElem?_getD, List.getElem?_eq_getElem h]
  rfl
theorem infoInt : (Tryz.prog.info? 3).map (fun i => (i.zero, i.size, i.bytes)) = some (some (.int .i64 0), 1, 8) := by kernel_rfl
theorem Nats.kept {w w' : World} {B : Nat} {v : Value} {L : List Nat} (h : Nats w B v L) (hb : Keeps w w') : Nats w' B v L := by
  refine ⟨h.1, h.2.imp id ?_⟩
  rintro ⟨g, cap, cur, e, h1, h2, h3⟩
  exact ⟨g, cap, cur, e, h1, (hb.block g (Array.getElem?_eq_some_iff.1 h2).1).trans h2, h3⟩
theorem Nats.mono {w : World} {B B' : Nat} {v : Value} {L : List Nat} (h : Nats w B v L) (hB : B' ≤ B) : Nats w B' v L := by
  refine ⟨h.1, h.2.imp id ?_⟩
  rintro ⟨g, cap, cur, e, h1, h2, h3⟩
  exact ⟨g, cap, cur, e, Nat.le_trans hB h1, h2, h3⟩
/-- A slice of places, whoever made it: only read. -/
def NatsIn (w : World) (v : Value) (L : List Nat) : Prop :=
  ∃ a cap, v = .slice a L.length cap ∧ L.length ≤ cap ∧ cap ≤ 9223372036854775807 ∧ (0 < L.length → ∃ b, a = some ⟨b, 0, none⟩ ∧ ∀ j, j < L.length → w.cell? ⟨b, j, none⟩ = some (.int .i64 ((L.getD j 0 : Nat) : Int)))
theorem Nats.reads {w : World} {B : Nat} {v : Value} {L : List Nat} (h : Nats w B v L) : NatsIn w v L := by
  rcases h.form with ⟨rfl, rfl⟩ | ⟨g, cap, cur, rfl, h1, h2, h3, h4, h5, h6⟩
  · exact ⟨none, 0, rfl, Nat.le_refl _, by omega, fun h => absurd h (Nat.not_lt_zero _)⟩
  · refine ⟨_, cap, rfl, h3, by unfold maxLen at h4; omega, fun _ => ⟨g, rfl, fun j hj => ?_⟩⟩
    have := h.cellAt j (by omega)
    rw [nums_get L j hj] at this
    exact this
theorem NatsIn.below {w w' : World} {v : Value} {L : List Nat} (h : NatsIn w v L) (hb : Keeps w w') : NatsIn w' v L := by
  obtain ⟨a, cap, rfl, h1, h2, h3⟩ := h
  refine ⟨a, cap, rfl, h1, h2, fun h => ?_⟩
  obtain ⟨b, rfl, hB⟩ := h3 h
  exact ⟨b, rfl, fun j hj => (hb.cell (p := ⟨b, j, none⟩) (lt_of_cell (hB j hj))).trans (hB j hj)⟩

/-- A text's characters in memory, as the program holds them. -/
def RunesIn (w : World) (v : Value) (X : List Int) : Prop :=
  ∃ b cap, v = .slice (some ⟨b, 0, none⟩) X.length cap ∧ X.length ≤ cap ∧ cap ≤ 9223372036854775807 ∧ ∀ j, j < X.length → w.cell? ⟨b, j, none⟩ = some (.int .i32 (X.getD j 0))
theorem RunesIn.below {w w' : World} {v : Value} {X : List Int} (h : RunesIn w v X) (hb : Keeps w w') : RunesIn w' v X := by
  obtain ⟨b, cap, rfl, h1, h2, h3⟩ := h
  exact ⟨b, cap, rfl, h1, h2, fun j hj => (hb.cell (p := ⟨b, j, none⟩) (lt_of_cell (h3 j hj))).trans (h3 j hj)⟩
end Go.Proofs.YtoilalffhmjhdaaGreatDoor.subst
