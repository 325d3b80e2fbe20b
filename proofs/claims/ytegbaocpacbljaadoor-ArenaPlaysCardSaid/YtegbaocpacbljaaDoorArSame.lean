/- Same of two slices that hold the same numbers. -/
import Derived.Test.YtegbaocpacbljaaDoorArClone
import Derived.BigQuiet
import Derived.Deep.QuietTactic
namespace Go.Proofs.YtegbaocpacbljaaDoor.arena
open Go.RowKit

/-- A slice that holds numbers. -/
def Rd (w : World) (v : Value) (l : List Nat) : Prop :=
  ∃ a c, v = .slice a l.length c ∧ l.length ≤ c ∧ c ≤ 9223372036854775807 ∧ (0 < l.length → ∃ b off, a = some ⟨b, off, none⟩ ∧ ∀ j, j < l.length → w.cell? ⟨b, off + j, none⟩ = some (.int .i64 ((l.getD j 0 : Nat) : Int)))
theorem Rd.of_own {w : World} {B : Nat} {v : Value} {l : List Nat} (h : w.ownsRow B 3 1 v l.length (nums l)) : Rd w v l := by
  rcases own_form h with ⟨rfl, h2, h3⟩ | ⟨g, cap, rfl, h1, h2, h3, h4, h5, h6⟩
  · exact ⟨none, 0, by rw [h2], by omega, by omega, fun h => by omega⟩
  · exact ⟨_, cap, rfl, h1, h2, fun h0 => ⟨g, 0, rfl, fun j hj => by rw [Nat.zero_add, h5 j (by omega), nums_at l j hj]⟩⟩
theorem Rd.mv {w w' : World} {v : Value} {l : List Nat} (h : Rd w v l) {F : Nat → Prop} (hm : Mv F w w') (hF : ∀ g, v.ownBlock = some g → ¬ F g) : Rd w' v l := by
  obtain ⟨a, c, rfl, h1, h2, h3⟩ := h
  refine ⟨a, c, rfl, h1, h2, fun h0 => ?_⟩
  obtain ⟨b, off, rfl, hB⟩ := h3 h0
  exact ⟨b, off, rfl, fun j hj => hm.cell (hB j hj) (hF b rfl)⟩
theorem Rd.below {w w' : World} {v : Value} {l : List Nat} (h : Rd w v l) (hb : Below w.heap.size w w') : Rd w' v l := h.mv (Mv.of_below hb fun _ => False) fun _ _ => id

set_option maxHeartbeats 1000000 in
theorem same_true {x y : Value} {l : List Nat} (w : World) (hx : Rd w x l) (hy : Rd w y l) (hl : l.length ≤ 1000000) :
    Calls Tryd.prog 16 #[x, y] w fun e w' => e = .returned (.bool true) ∧ Below w.heap.size w w' := by
  obtain ⟨a, c, rfl, a1, a2, a3⟩ := hx
  obtain ⟨b, d, rfl, b1, b2, b3⟩ := hy
  have HA := Lib.hid a3
  have HB := Lib.hid b3
  clear a3 b3
  go_enter Tryd.func16, Tryd.ntmps16
  go_wp2_with fail
  go_loopg [5] l.length (fun g t wr => ∃ i : Nat, t = .int .i64 i ∧ i ≤ l.length ∧ Hid (i + g = l.length) ∧ Below w.heap.size w wr)
  case atStart => exact ⟨0, rfl, Nat.zero_le _, Nat.zero_add _, Below.refl _ _⟩
  case round =>
    obtain ⟨i, rfl, hi, hg, hb⟩ := hrel
    by_cases hlt : i < l.length
    · obtain ⟨g, hg2⟩ : ∃ g, Hid (gk = g + 1) := ⟨gk - 1, by have := hg.out; show gk = _; omega⟩
      have x1 : (i : Int) < (l.length : Int) := by omega
      have x0 : (0 : Int) ≤ (i : Int) := by omega
      obtain ⟨p, o, rfl, hp⟩ := HA.out (by omega)
      obtain ⟨q, r, rfl, hq⟩ := HB.out (by omega)
      have c1 : wr.cell? ⟨p, o + i, none⟩ = some (.int .i64 ((l.getD i 0 : Nat) : Int)) := (hb.cell (p := ⟨p, o + i, none⟩) (ltc (hp i hlt))).trans (hp i hlt)
      have c2 : wr.cell? ⟨q, r + i, none⟩ = some (.int .i64 ((l.getD i 0 : Nat) : Int)) := (hb.cell (p := ⟨q, r + i, none⟩) (ltc (hq i hlt))).trans (hq i hlt)
      clear hp hq
      generalize l.getD i 0 = z at *
      go_wp2_with fail
      go_quiet (fail)
      go_wp2_with fail
      go_roundg g
      case measure => have := hg2.out; omega
      case rel => exact ⟨i + 1, by go_num, by omega, by have := hg.out; have := hg2.out; show _ = _; omega, ⟨hb.os, hb.tape, hb.output, hb.size, hb.block⟩⟩
    · have x1 : ¬ (i : Int) < (l.length : Int) := by omega
      go_wp2_with fail
      go_ret
      exact ⟨rfl, hb⟩
end Go.Proofs.YtegbaocpacbljaaDoor.arena
