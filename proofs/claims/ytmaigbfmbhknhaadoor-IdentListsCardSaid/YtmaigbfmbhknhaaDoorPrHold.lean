/- A row of fingerprints of the call's own, from its block's beginning on, that may be written: one fingerprint stored, the rest cleared. -/
import Derived.Test.YtmaigbfmbhknhaaDoorPrRefPrints
import Derived.Laws.IdiomCopy
import Derived.Lib.SlicesCompact
namespace Go.Proofs.YtmaigbfmbhknhaaDoor.prints
open Go.RowKit Go.Proofs.YtmaigbfmbhknhaaDoor.errs Go.Lib

/-- The block holds these from its beginning on, and may be written there. -/
def Hold (w : World) (B : Nat) (d : Array Pr) : Prop := ∀ j, j < d.size → At32 w B (j * 32) d[j]! ∧ ∀ i, i < 32 → w.frozen? ⟨B, j * 32 + i, none⟩ = false
theorem Hold.drewN {w : World} {B : Nat} {d : Array Pr} (h : Hold w B d) (n : Nat) : Hold (w.drewN n) B d := fun j hj =>
  ⟨fun i v hi => by rw [World.cell?_drewN]; exact (h j hj).1 i v hi, fun i hi => by rw [World.frozen?_drewN]; exact (h j hj).2 i hi⟩

theorem below_setCells {B : Nat} {a : World} (b : Nat) (hb : B ≤ b) : ∀ (vs : List Value) (o : Nat) (w : World), Below B a w → Below B a (w.setCells b o vs)
  | [], _, _, h => h
  | v :: vs, o, w, h => below_setCells b hb vs (o + 1) _ (h.setCell hb v)
theorem frozen_setCells (b : Nat) (x : Addr) : ∀ (vs : List Value) (o : Nat) (w : World), (w.setCells b o vs).frozen? x = w.frozen? x
  | [], _, _ => rfl
  | v :: vs, o, w => by rw [World.setCells, frozen_setCells b x vs (o + 1)]; exact World.frozen?_setCell ..

theorem hold_there {w : World} {B : Nat} {d : Array Pr} (h : Hold w B d) {j : Nat} (hj : j < d.size) : w.there B (j * 32) 32 := fun i hi =>
  ⟨by rw [(h j hj).1.cell hi]; rfl, (h j hj).2 i hi⟩
theorem hold_store {w : World} {B : Nat} {d : Array Pr} (h : Hold w B d) {k : Nat} (hk : k < d.size) (x : Pr) : Hold (w.setCells B (k * 32) (enc x)) B (d.setIfInBounds k x) := by
  intro j hj0
  have hj : j < d.size := by simpa using hj0
  clear hj0
  refine ⟨?_, fun i hi => by rw [frozen_setCells]; exact (h j hj).2 i hi⟩
  by_cases e : j = k
  · subst e
    have hx : (d.setIfInBounds j x)[j]! = x := by
      rw [getElem!_pos _ j (by simpa using hj)]
      simp
    rw [hx]
    have := World.rangeAt_setCells_same w B (j * 32) (enc x) (by rw [enc_length]; exact hold_there h hj)
    exact this
  · have hx : (d.setIfInBounds k x)[j]! = d[j]! := by
      rw [getElem!_pos _ j (by simpa using hj), getElem!_pos d j hj, Array.getElem_setIfInBounds_ne _ (fun h => e h.symm)]
    rw [hx]
    exact World.rangeAt_setCells_apart (h j hj).1 B (k * 32) (enc x) (.inr (by rw [enc_length, enc_length]; omega))

theorem zeroPrint : ∃ z : Array Value, (∀ w, (zeroValue 24).run Tryd.prog w = .ok (.agg z) w) ∧ z.size = 32 ∧ ∀ v ∈ z, v.oneCell' = true :=
  ⟨_, Tryd.zeroValue24, rfl, by decide⟩

theorem run_clear24 (w : World) (b o n c : Nat) (hn : 0 < n) (hc : ∀ j, j < n * 32 → (w.cell? ⟨b, o + j, none⟩).isSome = true) (hf : ∀ j, j < n * 32 → w.frozen? ⟨b, o + j, none⟩ = false) :
    ∃ vs : List Value, vs.length = n * 32 ∧ ∀ ty, (Builtin.clear_ #[22] ty #[.slice (some ⟨b, o, none⟩) n c]).run Tryd.prog w = .ok (.tuple #[]) (w.setCells b o vs) := by
  obtain ⟨z, hv, hs, h1⟩ := zeroPrint
  have hl : (Builtin.zeroCells z n).toList.length = n * 32 := by simp [Builtin.zeroCells, hs, Nat.mul_comm]
  have h1' : ∀ v ∈ (Builtin.zeroCells z n).toList, v.oneCell' = true := by
    intro v hv
    simp only [Builtin.zeroCells, Array.toList_map, List.mem_map] at hv
    obtain ⟨i, hi, rfl⟩ := hv
    have hi2 : i % z.size < z.size := Nat.mod_lt _ (by omega)
    rw [getElem!_pos z _ hi2]
    exact h1 _ (Array.getElem_mem hi2)
  have hst := run_storeCells_cells (P := Tryd.prog) b o (Builtin.zeroCells z n).toList 0 w (by rw [hl]; simpa using hc) (by rw [hl]; simpa using hf) h1'
  simp only [Nat.add_zero] at hst
  refine ⟨_, hl, fun ty => ?_⟩
  obtain ⟨m, rfl⟩ : ∃ m, n = m + 1 := ⟨n - 1, by omega⟩
  simp [Builtin.clear_, run_underlying Tryd.underlying22, hv, hst, Value.cells]
end Go.Proofs.YtmaigbfmbhknhaaDoor.prints
