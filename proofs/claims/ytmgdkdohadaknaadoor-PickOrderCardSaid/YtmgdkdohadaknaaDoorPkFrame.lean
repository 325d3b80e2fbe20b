/- Words for the frames of layer 28's laws: what a slice of candidates, and one of texts, that came in is, and how long their texts may be. -/
import Derived.Test.YtmgdkdohadaknaaDoorPkRow
import Derived.Deep.Slices
import Derived.SliceStrings
import Derived.OpenShut
import Derived.ChangeShapes
import Derived.ChangeArms
import Derived.SizedLaws
set_option linter.unusedSimpArgs false
set_option linter.unusedVariables false
namespace Go.Proofs.YtmgdkdohadaknaaDoor.pick
open Go.RowKit Go.ChangeShapes Go.WideShapes Go.Deep Go.Proofs.YtmgdkdohadaknaaDoor.errs

theorem mem_all {H : Type} {P : Program} {e : TypeId} : ∀ {l : List (DataW H)} {d : DataW H} {n : Nat}, d ∈ l → n ∈ d.weights P e → n ∈ DataW.weightsAll P e l
  | [], d, n, h, _ => by cases h
  | x :: l, d, n, h, hn => by
    unfold DataW.weightsAll
    rcases List.mem_cons.1 h with rfl | h
    · exact List.mem_append.2 (.inl hn)
    · exact List.mem_append.2 (.inr (mem_all h hn))
theorem mem_slice {H : Type} {P : Program} {t e : TypeId} (ht : P.underlying t = some (.slice e)) {l s : List (DataW H)} {d : DataW H} {n : Nat} (h : d ∈ l) (hn : n ∈ d.weights P e) : n ∈ (DataW.slice l s).weights P t := by
  simp only [DataW.weights, ht]
  exact List.mem_cons_of_mem _ (List.mem_append.2 (.inl (mem_all h hn)))

/-- A text's length as a weight. -/
theorem text_weight {H : Type} {P : Program} (t : TypeId) (s : ByteArray) : s.size ∈ (DataW.lit (H := H) (.string s.data.toList)).weights P t := by
  simp only [DataW.weights, List.mem_singleton]
  show s.data.size = _
  simp

section
variable {H : Type} {en : TypeId × Value → H} {W : World} {base : Nat} {spare : Nat → Bool} {held : Bool}
theorem open_cd {fuel : Nat} {cs : List Value} {x : DataW H × List MemPlace} (hf : DataW.trod en Tryd.prog W base spare held fuel 25 cs = some x) :
    ∃ r : Cd, cs = enc r ∧ r.app.size ∈ x.1.weights Tryd.prog 25 := by
  have hc5 : Tryd.prog.cellsOf 25 = 5 := by kernel_rfl
  have hs1 : Tryd.prog.cellsOf 9 = 1 := by kernel_rfl
  have hb1 : Tryd.prog.cellsOf 4 = 1 := by kernel_rfl
  obtain ⟨ys, n', -, rfl, hlen, hyl, hg⟩ := DataW.trod_struct Tryd.underlying25 hf
  rw [hc5] at hlen
  have hyl : ys.length = 5 := hyl
  obtain ⟨v0, v1, v2, v3, v4, rfl⟩ : ∃ v0 v1 v2 v3 v4, cs = [v0, v1, v2, v3, v4] := by
    clear hf hg
    rcases cs with _ | ⟨v0, _ | ⟨v1, _ | ⟨v2, _ | ⟨v3, _ | ⟨v4, _ | ⟨v5, t⟩⟩⟩⟩⟩⟩ <;> first | exact ⟨_, _, _, _, _, rfl⟩ | (simp at hlen)
  obtain ⟨y0, y1, y2, y3, y4, rfl⟩ : ∃ y0 y1 y2 y3 y4, ys = [y0, y1, y2, y3, y4] := by
    clear hf hg
    rcases ys with _ | ⟨y0, _ | ⟨y1, _ | ⟨y2, _ | ⟨y3, _ | ⟨y4, _ | ⟨y5, t⟩⟩⟩⟩⟩⟩ <;> first | exact ⟨_, _, _, _, _, rfl⟩ | (simp at hyl)
  have g0 : DataW.trod en Tryd.prog W base spare held n' 9 (([v0, v1, v2, v3, v4].drop 0).take (Tryd.prog.cellsOf 9)) = some y0 := hg 0 _ rfl
  have g1 : DataW.trod en Tryd.prog W base spare held n' 4 (([v0, v1, v2, v3, v4].drop 1).take (Tryd.prog.cellsOf 4)) = some y1 := hg 1 _ rfl
  have g2 : DataW.trod en Tryd.prog W base spare held n' 4 (([v0, v1, v2, v3, v4].drop 2).take (Tryd.prog.cellsOf 4)) = some y2 := hg 2 _ rfl
  have g3 : DataW.trod en Tryd.prog W base spare held n' 4 (([v0, v1, v2, v3, v4].drop 3).take (Tryd.prog.cellsOf 4)) = some y3 := hg 3 _ rfl
  have g4 : DataW.trod en Tryd.prog W base spare held n' 4 (([v0, v1, v2, v3, v4].drop 4).take (Tryd.prog.cellsOf 4)) = some y4 := hg 4 _ rfl
  rw [hs1] at g0
  rw [hb1] at g1 g2 g3 g4
  obtain ⟨n0, e0, rfl, -⟩ := DataW.trod_string Tryd.underlying9 g0
  obtain ⟨n1, e1, -⟩ := DataW.trod_bool Tryd.underlying4 g1
  obtain ⟨n2, e2, -⟩ := DataW.trod_bool Tryd.underlying4 g2
  obtain ⟨n3, e3, -⟩ := DataW.trod_bool Tryd.underlying4 g3
  obtain ⟨n4, e4, -⟩ := DataW.trod_bool Tryd.underlying4 g4
  have e0 : v0 = .string n0 := by simpa using e0
  have e1 : v1 = .bool n1 := by simpa using e1
  have e2 : v2 = .bool n2 := by simpa using e2
  have e3 : v3 = .bool n3 := by simpa using e3
  have e4 : v4 = .bool n4 := by simpa using e4
  refine ⟨⟨n0, n1, n2, n3, n4⟩, ?_, ?_⟩
  · rw [e0, e1, e2, e3, e4]
    rfl
  · simp [DataW.weights, DataW.weightsEach, Tryd.underlying25]

theorem open_cds {a : Option Addr} {len cap : Nat} {d : DataW H} {p : List MemPlace} (h : DataW.Trod en Tryd.prog W base spare held 22 (.slice a len cap) d p) {B : Nat} (hw : ∀ n ∈ d.weights Tryd.prog 22, n ≤ B) :
    ∃ L : List Cd, ((a = none → cap = 0) ∧ CdsIn W (.slice a len cap) L) ∧ ∀ x ∈ L, x.app.size ≤ B := by
  obtain ⟨fuel, hf⟩ := h
  have hc5 : Tryd.prog.cellsOf 25 = 5 := by kernel_rfl
  rcases open_slice Tryd.underlying22 hf with ⟨hcs, -⟩ | ⟨x, l, c, m, n, D, Pl, hcs, -, hl, hm, hmm, hx, hi⟩
  · simp [Value.cells] at hcs
    obtain ⟨rfl, rfl, rfl⟩ := hcs
    exact ⟨[], ⟨fun _ => rfl, cdsIn_nil W⟩, fun x hx => by cases hx⟩
  · simp [Value.cells] at hcs
    obtain ⟨rfl, rfl, rfl⟩ := hcs
    have hd : d = .slice ((List.range len).map D) ((List.range (m - len)).map fun j => D (len + j)) := (Prod.mk.inj hx).1
    have hlm : len ≤ m := by rw [hmm]; split <;> omega
    have each : ∀ i, i < len → ∃ o : Cd, (∀ j u, (enc o)[j]? = some u → W.cell? (x.add (i * 5 + j)) = some u) ∧ o.app.size ≤ B := fun i hil => by
      obtain ⟨cs', h1, h2⟩ := hi i (by omega)
      rw [hc5] at h1
      obtain ⟨-, h3, h4⟩ := World.cells?_some h1
      obtain ⟨o, rfl, q1⟩ := open_cd h2
      have up : ∀ k, k ∈ (D i).weights Tryd.prog 25 → k ≤ B := fun k hk => hw k (by
        rw [hd]
        exact mem_slice Tryd.underlying22 (List.mem_map.2 ⟨i, List.mem_range.2 hil, rfl⟩) hk)
      refine ⟨o, fun j u hu => ?_, up _ q1⟩
      have hj : j < 5 := (List.getElem?_eq_some_iff.1 hu).1
      rw [← add_add, h4 j hj]
      exact hu
    let f : Nat → Cd := fun i => if h : i < len then (each i h).choose else noCd
    have hfl : ((List.range len).map f).length = len := by simp
    have hfa : ∀ i, i < len → cdAt ((List.range len).map f) i = f i := fun i hil => by
      unfold cdAt
      rw [List.getD_eq_getElem?_getD, List.getElem?_map, List.getElem?_range hil]; rfl
    refine ⟨(List.range len).map f, ⟨(fun e => by cases e), some x, cap, by rw [hfl], by rw [hfl]; exact hl, by unfold maxLen at hm; omega, fun h0 => ?_⟩, fun y hy => ?_⟩
    · rw [hfl] at h0
      have c0 := (each 0 h0).choose_spec.1 0 _ rfl
      obtain ⟨b, off, spot⟩ := x
      have hsp : spot = none := by
        cases spot with
        | none => rfl
        | some t => simp [World.cell?, Addr.add] at c0; split at c0 <;> simp at c0
      subst hsp
      refine ⟨b, off, rfl, fun i hil => ?_⟩
      rw [hfl] at hil
      rw [hfa i hil]
      have q := (each i hil).choose_spec.1
      have hfi : f i = (each i hil).choose := by simp only [f, hil, dif_pos]
      rw [hfi]
      generalize (each i hil).choose = o at q
      have q' : ∀ j u, (enc o)[j]? = some u → W.cell? ⟨b, off + i * 5 + j, none⟩ = some u := fun j u hu => by
        have := q j u hu
        rwa [show (Addr.add ⟨b, off, none⟩ (i * 5 + j) : Addr) = ⟨b, off + i * 5 + j, none⟩ by simp [Addr.add, Nat.add_assoc]] at this
      exact ⟨q' 0 _ rfl, q' 1 _ rfl, q' 2 _ rfl, q' 3 _ rfl, q' 4 _ rfl⟩
    · obtain ⟨i, hir, rfl⟩ := List.mem_map.1 hy
      have hil := List.mem_range.1 hir
      have hfi : f i = (each i hil).choose := by simp only [f, hil, dif_pos]
      rw [hfi]
      exact (each i hil).choose_spec.2
end
end Go.Proofs.YtmgdkdohadaknaaDoor.pick
