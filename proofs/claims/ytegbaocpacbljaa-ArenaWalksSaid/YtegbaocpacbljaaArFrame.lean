/- Words for the frames of the laws: what a slice of numbers that came in is. -/
import Derived.Test.YtegbaocpacbljaaArBase
namespace Go.Proofs.Ytegbaocpacbljaa.frame
open Go.RowKit

/-- A slice of numbers that came in: nil, or a row of 'cap' cells that hold 'zs', the first 'len' of which are its elements. -/
def IsRow (k : IntKind) (w : World) (a : Option Addr) (len cap : Nat) (zs : List Int) : Prop :=
  (a = none ∧ len = 0 ∧ cap = 0 ∧ zs = []) ∨
  ∃ x, a = some x ∧ len ≤ cap ∧ cap ≤ maxLen ∧ zs.length = cap ∧ (∀ i, i < zs.length → w.cell? (x.add i) = some (.int k (zs.getD i 0))) ∧ ∀ n ∈ zs, (Lit.int k n).wf = true
theorem wf_u8 {n : Int} (h : (Lit.int .u8 n).wf = true) : 0 ≤ n ∧ n ≤ 255 := by
  have h : IntKind.u8.min ≤ n ∧ n ≤ IntKind.u8.max := by simpa [Lit.wf] using h
  exact h
/-- What it gives a walk: the address of its first cell, the bounds, the numbers' range. -/
theorem row_open {w : World} {a : Option Addr} {len cap : Nat} {zs : List Int} (h : IsRow .u8 w a len cap zs) :
    len ≤ cap ∧ cap ≤ 9223372036854775807 ∧ (∀ j, 0 ≤ (zs.take len).getD j 0) ∧ (0 < len → ∃ b off, a = some ⟨b, off, none⟩ ∧ ∀ j, j < len → w.cell? ⟨b, off + j, none⟩ = some (.int .u8 ((zs.take len).getD j 0)) ∧ (zs.take len).getD j 0 ≤ 255) := by
  rcases h with ⟨rfl, rfl, rfl, rfl⟩ | ⟨x, rfl, hl, hm, hz, hc, hw⟩
  · exact ⟨Nat.le_refl _, by omega, by simp, fun h => by omega⟩
  · have hr : ∀ j, 0 ≤ (zs.take len).getD j 0 ∧ (zs.take len).getD j 0 ≤ 255 := fun j => by
      by_cases hj : j < len
      · have hm : zs[j] ∈ zs := List.getElem_mem (by omega)
        have e : (zs.take len).getD j 0 = zs[j] := by simp [List.getD_eq_getElem?_getD, hj, show j < zs.length by omega]
        rw [e]
        exact wf_u8 (hw _ hm)
      · have e : (zs.take len).getD j 0 = 0 := by
          rw [List.getD_eq_getElem?_getD, List.getElem?_eq_none (by rw [List.length_take]; omega)]; rfl
        rw [e]; omega
    refine ⟨hl, by unfold maxLen at hm; omega, fun j => (hr j).1, fun h0 => ?_⟩
    have c0 := hc 0 (by omega)
    obtain ⟨b, off, spot⟩ := x
    have hsp : spot = none := by
      cases spot with
      | none => rfl
      | some t => simp [World.cell?, Addr.add] at c0; split at c0 <;> simp at c0
    subst hsp
    refine ⟨b, off, rfl, fun j hj => ⟨?_, (hr j).2⟩⟩
    have := hc j (by omega)
    rw [show (⟨b, off + j, none⟩ : Addr) = Addr.add ⟨b, off, none⟩ j from by simp [Addr.add], this]
    congr 2
    simp [List.getD_eq_getElem?_getD, hj]
end Go.Proofs.Ytegbaocpacbljaa.frame
