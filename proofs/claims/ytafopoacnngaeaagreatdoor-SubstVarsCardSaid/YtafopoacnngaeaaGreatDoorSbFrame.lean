/- Words for the frames of layer 19's laws: what a slice of texts that came in is. -/
import Derived.Test.YtafopoacnngaeaaGreatDoorSbRow
import Derived.SliceStrings
import Derived.OpenShut
import Derived.ChangeShapes
namespace Go.Proofs.YtafopoacnngaeaaGreatDoor.subst
open Go.RowKit Go.ChangeShapes Go.WideShapes

section
variable {H : Type} {en : TypeId × Value → H} {W : World} {base : Nat} {spare : Nat → Bool} {held : Bool}
theorem open_strs {a : Option Addr} {len cap : Nat} {d : DataW H} {p : List MemPlace} (h : DataW.Trod en Tryz.prog W base spare held 32 (.slice a len cap) d p) : ∃ zs, StrsIn W (.slice a len cap) zs := by
  obtain ⟨fuel, hf⟩ := h
  rcases open_strings Tryz.underlying32 Tryz.underlying9 (by kernel_rfl) hf with ⟨hcs, -⟩ | ⟨x, l, c, ss, hcs, -, hl, hm, hss, -, hcell, -⟩
  · simp [Value.cells] at hcs
    obtain ⟨rfl, rfl, rfl⟩ := hcs
    exact ⟨[], strsIn_nil W⟩
  · simp [Value.cells] at hcs
    obtain ⟨rfl, rfl, rfl⟩ := hcs
    have hlen : len ≤ ss.length := by rw [hss]; split <;> omega
    refine ⟨ss.take len, some x, cap, by rw [List.length_take, Nat.min_eq_left hlen], by rw [List.length_take]; omega, by unfold maxLen at hm; omega, fun h0 => ?_⟩
    rw [List.length_take, Nat.min_eq_left hlen] at h0
    have c0 := hcell 0 (by omega)
    obtain ⟨b, off, spot⟩ := x
    have hsp : spot = none := by
      cases spot with
      | none => rfl
      | some t => simp [World.cell?, Addr.add] at c0; split at c0 <;> simp at c0
    subst hsp
    refine ⟨b, off, rfl, fun j hj => ?_⟩
    rw [List.length_take, Nat.min_eq_left hlen] at hj
    have := hcell j (by omega)
    rw [show (⟨b, off + j, none⟩ : Addr) = Addr.add ⟨b, off, none⟩ j from by simp [Addr.add], this]
    congr 2
    rw [List.getD_eq_getElem?_getD, List.getD_eq_getElem?_getD, List.getElem?_take_of_lt hj, List.getElem?_eq_getElem (by omega)]
    rfl
end
end Go.Proofs.YtafopoacnngaeaaGreatDoor.subst
