/- Words for the frames of layer 19's laws: what a slice of texts that came in is. -/
import Derived.Test.YtoilalffhmjhdaaGreatDoorSbRow
import Derived.SliceStrings
import Derived.OpenShut
import Derived.ChangeShapes
import Derived.Deep.Slices
import Derived.ChangeArms
namespace Go.Proofs.YtoilalffhmjhdaaGreatDoor.subst
open Go.RowKit Go.ChangeShapes Go.WideShapes

section
variable {H : Type} {en : TypeId × Value → H} {W : World} {base : Nat} {spare : Nat → Bool} {held : Bool}
theorem open_strs {a : Option Addr} {len cap : Nat} {d : DataW H} {p : List MemPlace} (h : DataW.Trod en Tryz.prog W base spare held 32 (.slice a len cap) d p) : ∃ zs, StrsIn W (.slice a len cap) zs := by
  obtain ⟨fuel, hf⟩ := h
  rcases open_strings Tryz.underlying32 Tryz.underlying9 (by kernel_rfl) hf with ⟨hcs, -⟩ | ⟨x, l, c, ss, hcs, -, hl, hm, hss, -, hcell, -⟩
  · simp [Value.cells] at hcs
    obtain ⟨rfl, rfl, rfl⟩ := hcs
    exact ⟨[], strsIn_nil W⟩
  · simp [Value.cells] at hcs
    obtain ⟨rfl, rfl, rfl⟩ := hcs
    have hlen : len ≤ ss.length := by rw [hss]; split <;> omega
    refine ⟨ss.take len, some x, cap, by rw [List.length_take, Nat.min_eq_left hlen], by rw [List.length_take]; omega, by unfold maxLen at hm; omega, fun h0 => ?_⟩
    rw [List.length_take, Nat.min_eq_left hlen] at h0
    have c0 := hcell 0 (by omega)
    obtain ⟨b, off, spot⟩ := x
    have hsp : spot = none := by
      cases spot with
      | none => rfl
      | some t => simp [World.cell?, Addr.add] at c0; split at c0 <;> simp at c0
    subst hsp
    refine ⟨b, off, rfl, fun j hj => ?_⟩
    rw [List.length_take, Nat.min_eq_left hlen] at hj
    have := hcell j (by omega)
    rw [show (⟨b, off + j, none⟩ : Addr) = Addr.add ⟨b, off, none⟩ j from by simp [Addr.add], this]
    congr 2
    rw [List.getD_eq_getElem?_getD, List.getD_eq_getElem?_getD, List.getElem?_take_of_lt hj, List.getElem?_eq_getElem (by omega)]
    rfl
end
end Go.Proofs.YtoilalffhmjhdaaGreatDoor.subst
/- Words for the frames of layer 19's laws: what a variable that came in is, and what a slice of them that came in is. -/
set_option linter.unusedSimpArgs false
set_option linter.unusedVariables false
namespace Go.Proofs.YtoilalffhmjhdaaGreatDoor.subst
open Go.RowKit Go.ChangeShapes Go.WideShapes Go.Deep

section
variable {H : Type} {en : TypeId × Value → H} {W : World} {base : Nat} {spare : Nat → Bool} {held : Bool}
theorem strs_of_trod {fuel : Nat} {cs : List Value} {x : DataW H × List MemPlace} (hf : DataW.trod en Tryz.prog W base spare held fuel 32 cs = some x) : ∃ (a : Option Addr) (n c : Nat) (ps : List ByteArray), cs = [.slice a n c] ∧ StrsIn W (.slice a n c) ps := by
  have h0 := hf
  rcases open_strings Tryz.underlying32 Tryz.underlying9 (by kernel_rfl) hf with ⟨rfl, -⟩ | ⟨y, l, c, ss, rfl, -⟩
  · exact ⟨none, 0, 0, [], rfl, strsIn_nil W⟩
  · obtain ⟨zs, hz⟩ := open_strs (W := W) (a := some y) (len := l) (cap := c) ⟨fuel, h0⟩
    exact ⟨some y, l, c, zs, rfl, hz⟩
theorem two {α : Type} : ∀ {l : List α}, l.length = 2 → ∃ a b, l = [a, b]
  | [a, b], _ => ⟨a, b, rfl⟩
theorem var_of_trod {fuel : Nat} {cs : List Value} {x : DataW H × List MemPlace} (hf : DataW.trod en Tryz.prog W base spare held fuel 36 cs = some x) : ∃ (nm : ByteArray) (a : Option Addr) (n c : Nat) (ps : List ByteArray), cs = [.string nm, .slice a n c] ∧ StrsIn W (.slice a n c) ps := by
  have hc2 : Tryz.prog.cellsOf 36 = 2 := by kernel_rfl
  have hs1 : Tryz.prog.cellsOf 9 = 1 := by kernel_rfl
  have hi1 : Tryz.prog.cellsOf 32 = 1 := by kernel_rfl
  obtain ⟨ys, n', -, -, hlen, hyl, hg⟩ := DataW.trod_struct Tryz.underlying36 hf
  rw [hc2] at hlen
  have hyl : ys.length = 2 := hyl
  obtain ⟨v0, v1, rfl⟩ := two hlen
  have g0 : DataW.trod en Tryz.prog W base spare held n' 9 (([v0, v1].drop 0).take (Tryz.prog.cellsOf 9)) = ys[0]? := hg 0 _ rfl
  have g1 : DataW.trod en Tryz.prog W base spare held n' 32 (([v0, v1].drop 1).take (Tryz.prog.cellsOf 32)) = ys[1]? := hg 1 _ rfl
  rw [hs1, List.getElem?_eq_getElem (by omega)] at g0
  rw [hi1, List.getElem?_eq_getElem (by omega)] at g1
  obtain ⟨t, e0, -, -⟩ := DataW.trod_string Tryz.underlying9 g0
  obtain ⟨a, n, c, ps, e1, hI⟩ := strs_of_trod g1
  obtain rfl : v0 = .string t := by simpa using e0
  obtain rfl : v1 = .slice a n c := by simpa using e1
  exact ⟨t, a, n, c, ps, rfl, hI⟩
theorem open_var {v : Value} {dd : DataW H} {p : List MemPlace} (h : DataW.Trod en Tryz.prog W base spare held 36 v dd p) : ∃ (nm : ByteArray) (a : Option Addr) (n c : Nat) (ps : List ByteArray), StrsIn W (.slice a n c) ps ∧ v = .agg #[.string nm, .slice a n c] := by
  obtain ⟨fuel, hf⟩ := h
  obtain ⟨l, hle⟩ : ∃ l, v.cells.toList = l := ⟨_, rfl⟩
  rw [hle] at hf
  obtain ⟨t, a, n, c, ps, rfl, hI⟩ := var_of_trod hf
  refine ⟨t, a, n, c, ps, hI, ?_⟩
  have hs : v.cells.size = 2 := by
    have := congrArg List.length hle
    simpa using this
  cases v <;> first
    | (exfalso; simp [Value.cells] at hs; done)
    | (rename_i cs; simp only [Value.cells] at hle; rw [← hle])
theorem open_vars {a : Option Addr} {len cap : Nat} {d : DataW H} {p : List MemPlace} (h : DataW.Trod en Tryz.prog W base spare held 22 (.slice a len cap) d p) : ∃ zs, VarsIn W (.slice a len cap) zs := by
  obtain ⟨fuel, hf⟩ := h
  have hc2 : Tryz.prog.cellsOf 36 = 2 := by kernel_rfl
  rcases open_slice Tryz.underlying22 hf with ⟨hcs, -⟩ | ⟨x, l, c, m, n, D, Pl, hcs, -, hl, hm, hmm, -, hi⟩
  · simp [Value.cells] at hcs
    obtain ⟨rfl, rfl, rfl⟩ := hcs
    exact ⟨[], none, 0, rfl, Nat.le_refl _, by omega, fun h => absurd h (Nat.not_lt_zero _)⟩
  · simp [Value.cells] at hcs
    obtain ⟨rfl, rfl, rfl⟩ := hcs
    have hlm : len ≤ m := by rw [hmm]; split <;> omega
    have each : ∀ i, i < len → ∃ q : Vr, W.cell? (x.add (i * 2 + 0)) = some (.string q.name) ∧ ∃ sv, W.cell? (x.add (i * 2 + 1)) = some sv ∧ StrsIn W sv q.vals := fun i hil => by
      obtain ⟨cs', h1, h2⟩ := hi i (by omega)
      rw [hc2] at h1
      obtain ⟨-, h3, h4⟩ := World.cells?_some h1
      obtain ⟨t, a', n', c', ps, rfl, hI⟩ := var_of_trod h2
      refine ⟨⟨t, ps⟩, ?_, _, ?_, hI⟩
      · rw [← add_add, h4 0 (by omega)]; rfl
      · rw [← add_add, h4 1 (by omega)]; rfl
    obtain ⟨f, hf2⟩ : ∃ f : Nat → Vr, ∀ i, i < len → W.cell? (x.add (i * 2 + 0)) = some (.string (f i).name) ∧ ∃ sv, W.cell? (x.add (i * 2 + 1)) = some sv ∧ StrsIn W sv (f i).vals := by
      refine ⟨fun i => if h : i < len then (each i h).choose else noVr, fun i hil => ?_⟩
      simp only [hil, dif_pos]
      exact (each i hil).choose_spec
    have hpl : ((List.range len).map f).length = len := by simp
    refine ⟨(List.range len).map f, some x, cap, by rw [hpl], by rw [hpl]; exact hl, by unfold maxLen at hm; omega, fun h0 => ?_⟩
    rw [hpl] at h0
    have c0 := (hf2 0 h0).1
    obtain ⟨b, off, spot⟩ := x
    have hsp : spot = none := by
      cases spot with
      | none => rfl
      | some t => simp [World.cell?, Addr.add] at c0; split at c0 <;> simp at c0
    subst hsp
    refine ⟨b, off, rfl, fun i hil => ?_⟩
    rw [hpl] at hil
    obtain ⟨q0, sv, q1, q2⟩ := hf2 i hil
    have ef : ((List.range len).map f).getD i noVr = f i := by
      rw [List.getD_eq_getElem?_getD, List.getElem?_map, List.getElem?_range hil]; rfl
    rw [ef]
    rw [show (Addr.add ⟨b, off, none⟩ (i * 2 + 0) : Addr) = ⟨b, off + i * 2, none⟩ by simp [Addr.add]] at q0
    rw [show (Addr.add ⟨b, off, none⟩ (i * 2 + 1) : Addr) = ⟨b, off + i * 2 + 1, none⟩ by simp [Addr.add, Nat.add_assoc]] at q1
    exact ⟨q0, sv, q1, q2⟩
end
end Go.Proofs.YtoilalffhmjhdaaGreatDoor.subst
