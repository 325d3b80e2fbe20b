/- Words for the frames of the laws: what a slice of numbers that came in is; and for one of bytes, the bytes that it holds. -/
import Derived.Test.YtoilalffhmjhdaaGreatDoorValid
namespace Go.Proofs.YtoilalffhmjhdaaGreatDoor.frame
open Go.RowKit Go.Proofs.YtoilalffhmjhdaaGreatDoor.utf

/-- A slice of numbers that came in: nil, or a row of 'cap' cells that hold 'zs', the first 'len' of which are its elements. -/
def IsRow (k : IntKind) (w : World) (a : Option Addr) (len cap : Nat) (zs : List Int) : Prop :=
  (a = none ∧ len = 0 ∧ cap = 0 ∧ zs = []) ∨
  ∃ x, a = some x ∧ len ≤ cap ∧ cap ≤ maxLen ∧ zs.length = cap ∧ (∀ i, i < zs.length → w.cell? (x.add i) = some (.int k (zs.getD i 0))) ∧ ∀ n ∈ zs, (Lit.int k n).wf = true

def bytesOf (zs : List Int) : ByteArray := ⟨(zs.map fun z => UInt8.ofNat z.toNat).toArray⟩
theorem bytesOf_size (zs : List Int) : (bytesOf zs).size = zs.length := by simp [bytesOf, ByteArray.size]

theorem wf_u8 {n : Int} (h : (Lit.int .u8 n).wf = true) : 0 ≤ n ∧ n ≤ 255 := by
  have h : IntKind.u8.min ≤ n ∧ n ≤ IntKind.u8.max := by simpa [Lit.wf] using h
  exact h
theorem wf_i64 {n : Int} (h : (Lit.int .i64 n).wf = true) : -9223372036854775808 ≤ n ∧ n ≤ 9223372036854775807 := by
  have h : IntKind.i64.min ≤ n ∧ n ≤ IntKind.i64.max := by simpa [Lit.wf] using h
  exact h

theorem bytesOf_get (zs : List Int) (j : Nat) (h : j < zs.length) (hw : ∀ n ∈ zs, (Lit.int .u8 n).wf = true) : (((bytesOf zs).get! j).toNat : Int) = zs.getD j 0 := by
  have hm : zs[j] ∈ zs := List.getElem_mem h
  obtain ⟨h0, h1⟩ := wf_u8 (hw _ hm)
  have e : (bytesOf zs).get! j = UInt8.ofNat zs[j].toNat := by
    simp [bytesOf, ByteArray.get!, h]
  rw [e, List.getD_eq_getElem?_getD, List.getElem?_eq_getElem h]
  simp [UInt8.toNat_ofNat']
  omega

/-- A slice of bytes that came in holds bytes. -/
theorem sl_of_row {w : World} {a : Option Addr} {len cap : Nat} {zs : List Int} (h : IsRow .u8 w a len cap zs) : Sl w (.slice a len cap) (bytesOf (zs.take len)) ∧ (bytesOf (zs.take len)).size = len := by
  rcases h with ⟨rfl, rfl, rfl, rfl⟩ | ⟨x, rfl, hl, hm, hz, hc, hw⟩
  · exact ⟨⟨none, 0, rfl, Nat.le_refl _, by decide, fun h => absurd h (by decide)⟩, rfl⟩
  · have hs : (bytesOf (zs.take len)).size = len := by rw [bytesOf_size, List.length_take]; omega
    refine ⟨⟨some x, cap, by rw [hs], by rw [hs]; exact hl, by unfold maxLen at hm; omega, fun h0 => ?_⟩, hs⟩
    rw [hs] at h0
    have c0 := hc 0 (by omega)
    obtain ⟨b, off, spot⟩ := x
    have hsp : spot = none := by
      cases spot with
      | none => rfl
      | some t => simp [World.cell?, Addr.add] at c0; split at c0 <;> simp at c0
    subst hsp
    refine ⟨b, off, rfl, fun j hj => ?_⟩
    rw [hs] at hj
    have hg := bytesOf_get (zs.take len) j (by rw [List.length_take]; omega) (fun n hn => hw n (List.mem_of_mem_take hn))
    rw [hg]
    have := hc j (by omega)
    rw [show (⟨b, off + j, none⟩ : Addr) = Addr.add ⟨b, off, none⟩ j from by simp [Addr.add], this]
    congr 2
    simp [List.getD_eq_getElem?_getD, hj]
end Go.Proofs.YtoilalffhmjhdaaGreatDoor.frame
