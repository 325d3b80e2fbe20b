/- The document's Same at two answers that are one. -/
import Derived.Test.YtmgdkdohadaknaaDoorPkRow
import Derived.Deep.QuietTactic
import Derived.BigQuiet
import Derived.Deep.LoopGhost
set_option linter.unusedSimpArgs false
set_option linter.unusedVariables false
namespace Go.Proofs.YtmgdkdohadaknaaDoor.pick
open Go.RowKit Go.Proofs.YtmgdkdohadaknaaDoor.errs Go.Proofs.YtmgdkdohadaknaaDoor.wire

set_option maxRecDepth 100000 in
set_option maxHeartbeats 2000000 in
theorem same_is (x : An) (v u : Value) (w : World) (h1 : AnsV w v x) (h2 : AnsV w u x) :
    Calls Tryd.prog 12 #[v, u] w fun e w' => e = .returned (.bool true) ∧ Below w.heap.size w w' := by
  obtain ⟨s1, rfl, hs1⟩ := h1
  obtain ⟨s2, rfl, hs2⟩ := h2
  obtain ⟨a1, c1, rfl⟩ := hs1.form
  obtain ⟨a2, c2, rfl⟩ := hs2.form
  obtain ⟨k, l, r⟩ := x
  simp only at hs1 hs2 ⊢
  have nk : (k != k) = false := by rw [bne_eq_false_iff_eq]
  have nr : (r != r) = false := by rw [bne_eq_false_iff_eq]
  obtain ⟨n, hnn⟩ : ∃ n, Hid (l.length = n) := ⟨_, rfl⟩
  have hz := (hs1.at).2.2.1
  have hle := (hs1.at).2.1
  have nn : ((n : Int) != (n : Int)) = false := by rw [bne_eq_false_iff_eq]
  obtain ⟨W, hW⟩ : ∃ W, (w.alloc (.cells #[.int .i64 k, .slice a1 n c1, .int .i64 r] 29)).alloc (.cells #[.int .i64 k, .slice a2 n c2, .int .i64 r] 29) = W := ⟨_, rfl⟩
  have HB : Hid (Below w.heap.size w W) := by show Below _ _ _; rw [← hW]; exact ((Below.refl _ _).alloc (Nat.le_refl _) _).alloc (by simp) _
  have HI1 := Lib.hid (hs1.below HB.out)
  have HI2 := Lib.hid (hs2.below HB.out)
  have HS : Hid (w.heap.size + 1 < W.heap.size) := by show _ < _; rw [← hW]; simp
  have C1 : Hid (W.cell? ⟨w.heap.size, 1, none⟩ = some (.slice a1 n c1)) := by
    show _ = _
    rw [← hW, World.cell?_alloc_lt _ _ _ (by simp), World.cell?_alloc_at _ _ _ _ rfl]; rfl
  have C2 : Hid (W.cell? ⟨w.heap.size + 1, 1, none⟩ = some (.slice a2 n c2)) := by
    show _ = _
    rw [← hW, World.cell?_alloc_at _ _ _ _ (by simp)]; rfl
  have HW := Lib.hid hW
  rw [hnn.out] at hle
  clear hs1 hs2 hW
  rw [hnn.out]
  go_enter Tryd.func12, Tryd.ntmps12
  go_wp2_with fail
  rw [HW.out]
  go_loopg [5] n (fun g b wr => ∃ i : Nat, b = .int .i64 i ∧ g + i = n ∧ Aside (Below W.heap.size W wr))
  case atStart => exact ⟨0, rfl, rfl, Below.refl _ _⟩
  case round =>
    obtain ⟨i, rfl, hg, hA⟩ := hrel
    have y1 : (0 : Int) ≤ (i : Int) := by omega
    have d1 : wr.cell? ⟨w.heap.size, 1, none⟩ = some (.slice a1 n c1) := (hA.out.cell (p := ⟨w.heap.size, 1, none⟩) (by have := HS.out; show w.heap.size < _; omega)).trans C1.out
    have d2 : wr.cell? ⟨w.heap.size + 1, 1, none⟩ = some (.slice a2 n c2) := (hA.out.cell (p := ⟨w.heap.size + 1, 1, none⟩) HS.out).trans C2.out
    by_cases hlt : i < n
    · have y0 : (i : Int) < (n : Int) := by omega
      obtain ⟨b1, o1, rfl, e0⟩ := ((HI1.out.below hA.out).at).2.2.2 i (by rw [hnn.out]; exact hlt)
      obtain ⟨b2, o2, rfl, f0⟩ := ((HI2.out.below hA.out).at).2.2.2 i (by rw [hnn.out]; exact hlt)
      generalize l.getD i ⟨#[]⟩ = s at e0 f0
      have ns : (s.toList != s.toList) = false := by rw [bne_eq_false_iff_eq]
      go_wp2_with fail
      go_quiet (fail)
      go_wp2_with fail
      go_roundg (gk - 1)
      case measure => omega
      case rel => exact ⟨i + 1, by go_num, by omega, below_drawN hA.out _⟩
    · have y0 : ¬ (i : Int) < (n : Int) := by omega
      go_wp2_with fail
      go_ret
      exact ⟨rfl, HB.out.trans (hA.out.mono HB.out.size)⟩
end Go.Proofs.YtmgdkdohadaknaaDoor.pick
