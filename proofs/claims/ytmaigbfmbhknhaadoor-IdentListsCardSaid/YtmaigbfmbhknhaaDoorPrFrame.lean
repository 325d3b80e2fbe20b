/- Words for the frames of the laws on fingerprints: what one that came in is, and what a slice of them that came in is. -/
import Derived.Test.YtmaigbfmbhknhaaDoorPrRow
import Derived.Deep.Slices
import Derived.OpenShut
import Derived.ChangeShapes
namespace Go.Proofs.YtmaigbfmbhknhaaDoor.prints
open Go.RowKit Go.Proofs.YtmaigbfmbhknhaaDoor.errs Go.ChangeShapes Go.WideShapes Go.Deep

theorem pr_of (cs : List Value) (hl : cs.length = 32) (h : ∀ j, j < 32 → ∃ n : Int, cs[j]? = some (.int .u8 n) ∧ 0 ≤ n ∧ n ≤ 255) : ∃ x : Pr, enc x = cs := by
  refine ⟨⟨cs.map fun v => match v with | .int _ n => UInt8.ofNat n.toNat | _ => 0, by rw [List.length_map, hl]⟩, ?_⟩
  unfold enc
  apply List.ext_getElem
  · simp
  · intro j h1 h2
    have hj : j < 32 := by omega
    obtain ⟨n, hn, h3, h4⟩ := h j hj
    rw [List.getElem?_eq_getElem h2] at hn
    have hn := Option.some.inj hn
    rw [List.getElem_map, List.getElem_map, hn]
    show Value.int .u8 ((UInt8.ofNat n.toNat).toNat : Int) = Value.int .u8 n
    congr 1
    rw [UInt8.toNat_ofNat']
    omega

section
variable {H : Type} {en : TypeId × Value → H} {W : World} {base : Nat} {spare : Nat → Bool} {held : Bool}
theorem pr_of_trod {fuel : Nat} {cs : List Value} {y : DataW H × List MemPlace} (h : DataW.trod en Tryd.prog W base spare held fuel 24 cs = some y) : ∃ x : Pr, enc x = cs := by
  obtain ⟨xs, m, -, -, hl, hx, hi⟩ := DataW.trod_array Tryd.underlying24 h
  have hc : Tryd.prog.cellsOf 5 = 1 := by kernel_rfl
  have hc2 : Tryd.prog.cellsOf 24 = 32 := by kernel_rfl
  rw [hc2] at hl
  refine pr_of cs hl fun j hj => ?_
  have hj1 := hi j hj
  rw [hc, Nat.mul_one, List.getElem?_eq_getElem (by omega)] at hj1
  obtain ⟨n, hn, -, hw⟩ := DataW.trod_int Tryd.underlying5 hj1
  refine ⟨n, ?_, ?_⟩
  · have : ((cs.drop j).take 1)[0]? = some (.int .u8 n) := by rw [hn]; rfl
    rw [List.getElem?_take_of_lt (by omega), List.getElem?_drop] at this
    simpa using this
  · have h : IntKind.u8.min ≤ n ∧ n ≤ IntKind.u8.max := by simpa [Lit.wf] using hw
    exact h

theorem open_print {v : Value} {d : DataW H} {p : List MemPlace} (h : DataW.Trod en Tryd.prog W base spare held 24 v d p) : ∃ x : Pr, v = .agg (enc x).toArray := by
  obtain ⟨fuel, hf⟩ := h
  obtain ⟨x, hx⟩ := pr_of_trod hf
  refine ⟨x, ?_⟩
  have hl : v.cells.size = 32 := by
    have := enc_length x
    rw [hx] at this
    simpa using this
  cases v <;> first
    | (exfalso; simp [Value.cells] at hl; done)
    | (rename_i cs; rw [hx]; simp [Value.cells])

theorem open_prints {a : Option Addr} {len cap : Nat} {d : DataW H} {p : List MemPlace} (h : DataW.Trod en Tryd.prog W base spare held 22 (.slice a len cap) d p) : ∃ zs : List Pr, zs.length = len ∧ Row W (.slice a len cap) zs := by
  obtain ⟨fuel, hf⟩ := h
  have hc2 : Tryd.prog.cellsOf 24 = 32 := by kernel_rfl
  rcases open_slice Tryd.underlying22 hf with ⟨hcs, -⟩ | ⟨x, l, c, m, n, D, Pl, hcs, -, hl, hm, hmm, -, hi⟩
  · simp [Value.cells] at hcs
    obtain ⟨rfl, rfl, rfl⟩ := hcs
    exact ⟨[], rfl, none, 0, rfl, Nat.le_refl _, by omega, fun _ => rfl, fun h => absurd h (by decide)⟩
  · simp [Value.cells] at hcs
    obtain ⟨rfl, rfl, rfl⟩ := hcs
    have hlm : len ≤ m := by rw [hmm]; split <;> omega
    have each : ∀ i, i < len → ∃ y : Pr, ∀ j v, (enc y)[j]? = some v → W.cell? (x.add (i * 32 + j)) = some v := fun i hil => by
      obtain ⟨cs', h1, h2⟩ := hi i (by omega)
      rw [hc2] at h1
      obtain ⟨-, h3, h4⟩ := World.cells?_some h1
      obtain ⟨y, hy⟩ := pr_of_trod h2
      refine ⟨y, fun j v hv => ?_⟩
      have hj : j < 32 := by
        rcases Nat.lt_or_ge j 32 with h | h
        · exact h
        · rw [List.getElem?_eq_none (by rw [enc_length]; exact h)] at hv; cases hv
      rw [← add_add, h4 j hj, ← hy]
      exact hv
    have hch : ∃ f : Nat → Pr, ∀ i, i < len → ∀ j v, (enc (f i))[j]? = some v → W.cell? (x.add (i * 32 + j)) = some v := by
      refine ⟨fun i => if h : i < len then (each i h).choose else default, fun i hil => ?_⟩
      simp only [hil, dif_pos]
      exact (each i hil).choose_spec
    obtain ⟨f, hf2⟩ := hch
    have hL : ((List.range len).map f).length = len := by simp
    refine ⟨(List.range len).map f, hL, some x, cap, by rw [hL], by rw [hL]; exact hl, by unfold maxLen at hm; omega, fun h => (by cases h), fun h0 => ?_⟩
    rw [hL] at h0
    have c0 := hf2 0 h0 0 _ (List.getElem?_eq_getElem (by rw [enc_length]; omega))
    obtain ⟨b, off, spot⟩ := x
    have hsp : spot = none := by
      cases spot with
      | none => rfl
      | some t => simp [World.cell?, Addr.add] at c0; split at c0 <;> simp at c0
    subst hsp
    refine ⟨b, off, rfl, fun i hil => ?_⟩
    rw [hL] at hil
    have e : ((List.range len).map f)[i]! = f i := by rw [getElem!_pos _ i (by rw [hL]; exact hil)]; simp
    rw [e]
    intro j v hv
    have := hf2 i hil j v hv
    rwa [show (Addr.add ⟨b, off, none⟩ (i * 32 + j) : Addr) = ⟨b, off + i * 32 + j, none⟩ by simp [Addr.add, Nat.add_assoc]] at this
end
end Go.Proofs.YtmaigbfmbhknhaaDoor.prints
