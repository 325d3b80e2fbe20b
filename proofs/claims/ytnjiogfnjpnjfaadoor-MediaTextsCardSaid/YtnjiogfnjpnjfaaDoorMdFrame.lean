/- A word for the frame of the law on kinds' texts: what a kind of content that came in is. -/
import Derived.Test.YtnjiogfnjpnjfaaDoorMdRow
import Derived.Deep.Slices
import Derived.OpenShut
import Derived.ChangeShapes
import Derived.ChangeArms
set_option linter.unusedSimpArgs false
set_option linter.unusedVariables false
namespace Go.Proofs.YtnjiogfnjpnjfaaDoor.media
open Go.RowKit Go.ChangeShapes Go.WideShapes Go.Deep

theorem open_items {H : Type} {en : TypeId × Value → H} {W : World} {base : Nat} {spare : Nat → Bool} {held : Bool} {fuel : Nat} {cs : List Value} {x : DataW H × List MemPlace}
    (hf : DataW.trod en Tryd.prog W base spare held fuel 22 cs = some x) : ∃ (a : Option Addr) (n c : Nat) (ps : List It), cs = [.slice a n c] ∧ ItemsIn W (.slice a n c) ps := by
  have hc3 : Tryd.prog.cellsOf 44 = 3 := by kernel_rfl
  have hs1 : Tryd.prog.cellsOf 9 = 1 := by kernel_rfl
  have hb1 : Tryd.prog.cellsOf 4 = 1 := by kernel_rfl
  rcases open_slice Tryd.underlying22 hf with ⟨rfl, -⟩ | ⟨x, len, cap, m, n, D, Pl, rfl, -, hl, hm, hmm, -, hi⟩
  · exact ⟨none, 0, 0, [], rfl, itemsIn_nil W⟩
  · have hlm : len ≤ m := by rw [hmm]; split <;> omega
    have each : ∀ i, i < len → ∃ q : It, W.cell? (x.add (i * 3 + 0)) = some (.string q.name) ∧ W.cell? (x.add (i * 3 + 1)) = some (.string q.value) ∧ W.cell? (x.add (i * 3 + 2)) = some (.bool q.has) := fun i hil => by
      obtain ⟨cs', h1, h2⟩ := hi i (by omega)
      rw [hc3] at h1
      obtain ⟨-, h3, h4⟩ := World.cells?_some h1
      obtain ⟨ys, n', -, -, hlen, hyl, hg⟩ := DataW.trod_struct Tryd.underlying44 h2
      rw [hc3] at hlen
      have hyl : ys.length = 3 := hyl
      obtain ⟨v0, v1, v2, rfl⟩ : ∃ v0 v1 v2, cs' = [v0, v1, v2] := by
        have hl3 : cs'.length = 3 := hlen
        clear h1 h2 h3 h4 hlen hg hi hf
        rcases cs' with _ | ⟨v0, _ | ⟨v1, _ | ⟨v2, _ | ⟨v3, t⟩⟩⟩⟩
        · exact absurd hl3 (by simp)
        · exact absurd hl3 (by simp)
        · exact absurd hl3 (by simp)
        · exact ⟨v0, v1, v2, rfl⟩
        · simp at hl3
      have g0 : DataW.trod en Tryd.prog W base spare held n' 9 (([v0, v1, v2].drop 0).take (Tryd.prog.cellsOf 9)) = ys[0]? := hg 0 _ rfl
      have g1 : DataW.trod en Tryd.prog W base spare held n' 9 (([v0, v1, v2].drop 1).take (Tryd.prog.cellsOf 9)) = ys[1]? := hg 1 _ rfl
      have g2 : DataW.trod en Tryd.prog W base spare held n' 4 (([v0, v1, v2].drop 2).take (Tryd.prog.cellsOf 4)) = ys[2]? := hg 2 _ rfl
      rw [hs1, List.getElem?_eq_getElem (by omega)] at g0 g1
      rw [hb1, List.getElem?_eq_getElem (by omega)] at g2
      obtain ⟨n0, e0, -, -⟩ := DataW.trod_string Tryd.underlying9 g0
      obtain ⟨n1, e1, -, -⟩ := DataW.trod_string Tryd.underlying9 g1
      obtain ⟨n2, e2, -⟩ := DataW.trod_bool Tryd.underlying4 g2
      have e0 : v0 = .string n0 := by simpa using e0
      have e1 : v1 = .string n1 := by simpa using e1
      have e2 : v2 = .bool n2 := by simpa using e2
      refine ⟨⟨n0, n1, n2⟩, ?_, ?_, ?_⟩
      · rw [← add_add, h4 0 (by omega), e0]; rfl
      · rw [← add_add, h4 1 (by omega), e1]; rfl
      · rw [← add_add, h4 2 (by omega), e2]; rfl
    obtain ⟨f, hf2⟩ : ∃ f : Nat → It, ∀ i, i < len → W.cell? (x.add (i * 3 + 0)) = some (.string (f i).name) ∧ W.cell? (x.add (i * 3 + 1)) = some (.string (f i).value) ∧ W.cell? (x.add (i * 3 + 2)) = some (.bool (f i).has) := by
      refine ⟨fun i => if h : i < len then (each i h).choose else noIt, fun i hil => ?_⟩
      simp only [hil, dif_pos]
      exact (each i hil).choose_spec
    have hpl : ((List.range len).map f).length = len := by simp
    refine ⟨some x, len, cap, (List.range len).map f, rfl, some x, cap, by rw [hpl], by rw [hpl]; exact hl, by unfold maxLen at hm; omega, fun h0 => ?_⟩
    rw [hpl] at h0
    have c0 := (hf2 0 h0).1
    obtain ⟨b, off, spot⟩ := x
    have hsp : spot = none := by
      cases spot with
      | none => rfl
      | some t => simp [World.cell?, Addr.add] at c0; split at c0 <;> simp at c0
    subst hsp
    refine ⟨b, off, rfl, fun i hil => ?_⟩
    rw [hpl] at hil
    obtain ⟨q0, q1, q2⟩ := hf2 i hil
    have ef : itAt ((List.range len).map f) i = f i := by
      unfold itAt
      rw [List.getD_eq_getElem?_getD, List.getElem?_map, List.getElem?_range hil]; rfl
    rw [ef]
    rw [show (Addr.add ⟨b, off, none⟩ (i * 3 + 0) : Addr) = ⟨b, off + i * 3, none⟩ by simp [Addr.add]] at q0
    rw [show (Addr.add ⟨b, off, none⟩ (i * 3 + 1) : Addr) = ⟨b, off + i * 3 + 1, none⟩ by simp [Addr.add, Nat.add_assoc]] at q1
    rw [show (Addr.add ⟨b, off, none⟩ (i * 3 + 2) : Addr) = ⟨b, off + i * 3 + 2, none⟩ by simp [Addr.add, Nat.add_assoc]] at q2
    exact ⟨q0, q1, q2⟩

theorem open_media {H : Type} {en : TypeId × Value → H} {W : World} {base : Nat} {spare : Nat → Bool} {held : Bool} {v : Value} {dd : DataW H} {p : List MemPlace}
    (h : DataW.Trod en Tryd.prog W base spare held 24 v dd p) : ∃ (t u : ByteArray) (a : Option Addr) (n c : Nat) (ps : List It), (ItemsIn W (.slice a n c) ps ∧ t.size ≤ maxLen ∧ u.size ≤ maxLen ∧ n ≤ maxLen) ∧ v = .agg #[.string t, .string u, .slice a n c] := by
  obtain ⟨fuel, hf⟩ := h
  obtain ⟨l, hle⟩ : ∃ l, v.cells.toList = l := ⟨_, rfl⟩
  rw [hle] at hf
  have hc3 : Tryd.prog.cellsOf 24 = 3 := by kernel_rfl
  have hs1 : Tryd.prog.cellsOf 9 = 1 := by kernel_rfl
  have hi1 : Tryd.prog.cellsOf 22 = 1 := by kernel_rfl
  obtain ⟨ys, n', -, -, hlen, hyl, hg⟩ := DataW.trod_struct Tryd.underlying24 hf
  rw [hc3] at hlen
  have hyl : ys.length = 3 := hyl
  obtain ⟨v0, v1, v2, rfl⟩ : ∃ v0 v1 v2, l = [v0, v1, v2] := by
    clear hle hf hg
    rcases l with _ | ⟨v0, _ | ⟨v1, _ | ⟨v2, _ | ⟨v3, t⟩⟩⟩⟩
    · exact absurd hlen (by simp)
    · exact absurd hlen (by simp)
    · exact absurd hlen (by simp)
    · exact ⟨v0, v1, v2, rfl⟩
    · simp at hlen
  have g0 : DataW.trod en Tryd.prog W base spare held n' 9 (([v0, v1, v2].drop 0).take (Tryd.prog.cellsOf 9)) = ys[0]? := hg 0 _ rfl
  have g1 : DataW.trod en Tryd.prog W base spare held n' 9 (([v0, v1, v2].drop 1).take (Tryd.prog.cellsOf 9)) = ys[1]? := hg 1 _ rfl
  have g2 : DataW.trod en Tryd.prog W base spare held n' 22 (([v0, v1, v2].drop 2).take (Tryd.prog.cellsOf 22)) = ys[2]? := hg 2 _ rfl
  rw [hs1, List.getElem?_eq_getElem (by omega)] at g0 g1
  rw [hi1, List.getElem?_eq_getElem (by omega)] at g2
  obtain ⟨t, e0, -, st⟩ := DataW.trod_string Tryd.underlying9 g0
  obtain ⟨u, e1, -, su⟩ := DataW.trod_string Tryd.underlying9 g1
  obtain ⟨a, n, c, ps, e2, hI⟩ := open_items g2
  obtain rfl : v0 = .string t := by simpa using e0
  obtain rfl : v1 = .string u := by simpa using e1
  obtain rfl : v2 = .slice a n c := by simpa using e2
  have hnm : n ≤ maxLen := by have := hI.len.2.1; have := hI.len.2.2; unfold maxLen; omega
  refine ⟨t, u, a, n, c, ps, ⟨hI, st, su, hnm⟩, ?_⟩
  have hs : v.cells.size = 3 := by
    have := congrArg List.length hle
    simpa using this
  cases v <;> first
    | (exfalso; simp [Value.cells] at hs; done)
    | (rename_i cs; simp only [Value.cells] at hle; rw [← hle])
end Go.Proofs.YtnjiogfnjpnjfaaDoor.media
