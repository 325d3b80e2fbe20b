/- The walk of the law on the errors' names: it returns true at any place, and what was there stays. -/
import Derived.Test.YtgoicbgoelaomaaDoorSpeaks
import Derived.Test.YtgoicbgoelaomaaDoorCalm
namespace Go.Proofs.YtgoicbgoelaomaaDoor.utfNames
open Go.RowKit Go.Proofs.YtgoicbgoelaomaaDoor.errs Go.Proofs.YtgoicbgoelaomaaDoor.utf

set_option maxHeartbeats 2000000 in
theorem law (n : Int) (w : World) (_w0 : (Lit.int .i64 n).wf = true) (hH : Tabs w ∧ Laid w) :
    Calls Tryd.prog 3 #[.int .i64 n] w fun e w' => e = .returned (.bool true) ∧ Below w.heap.size w w' := by
  have S := speaks_any w hH.1 hH.2
  have H : Aside (Laid w) := hH.2
  clear hH _w0
  go_enter Tryd.func3, Tryd.ntmps3
  go_wp2_with fail
  refine S.mono ?_; rintro e w1 ⟨rfl, hb1⟩
  go_wp2_with fail
  refine (fail_any 11 n w1).mono ?_; rintro e w2 ⟨rfl, hw2⟩
  have hb2 : Below w.heap.size w w2 := hw2 ▸ hb1.alloc hb1.size _
  have f2 := fault_new w1 11 n .nilIface
  rw [hw2] at f2
  have B2 : Aside (Below w.heap.size w w2) := hb2
  clear hb1 hb2 hw2
  obtain ⟨p, hp⟩ : ∃ p, p = w1.heap.size := ⟨_, rfl⟩
  rw [← hp] at f2 ⊢
  have F2 := Lib.hid f2
  clear f2 hp
  go_wp2_with fail
  refine (wrap_any 33 3 _ w2).mono ?_; rintro e w3 ⟨rfl, hw3⟩
  have hb3 : Below w.heap.size w w3 := hw3 ▸ B2.out.alloc B2.out.size _
  have k3 : Below w2.heap.size w2 w3 := hw3 ▸ (Below.refl _ w2).alloc (Nat.le_refl _) _
  have g3 := fault_new w2 33 3 (.iface 59 (.pointer (some ⟨p, 0, none⟩)))
  rw [hw3] at g3
  have f3 := F2.out.below k3 (Nat.le_refl _)
  have c1 := f3.chain .nil
  have c2 := g3.chain c1
  have L3 := H.out.below hb3 (Nat.le_refl _)
  obtain ⟨q, hq⟩ : ∃ q, q = w2.heap.size := ⟨_, rfl⟩
  rw [← hq] at g3 c2 ⊢
  have B3 : Aside (Below w.heap.size w w3) := hb3
  have A1 : ∀ w', Keeps w3 w' → Calls Tryd.prog 13 #[.iface 59 (.pointer (some ⟨p, 0, none⟩))] w' fun e w' => e = .returned (.int .i64 11) ∧ Keeps w3 w' := fun w' h => kind_keeps L3 f3 h
  have A2 : ∀ w', Keeps w3 w' → Calls Tryd.prog 14 #[.iface 59 (.pointer (some ⟨p, 0, none⟩))] w' fun e w' => e = .returned (.int .i64 n) ∧ Keeps w3 w' := fun w' h => at_keeps L3 f3 h
  have A3 : ∀ w', Keeps w3 w' → Calls Tryd.prog 13 #[.iface 59 (.pointer (some ⟨q, 0, none⟩))] w' fun e w' => e = .returned (.int .i64 33) ∧ Keeps w3 w' := fun w' h => kind_keeps L3 g3 h
  have A4 : ∀ w', Keeps w3 w' → Calls Tryd.prog 14 #[.iface 59 (.pointer (some ⟨q, 0, none⟩))] w' fun e w' => e = .returned (.int .i64 3) ∧ Keeps w3 w' := fun w' h => at_keeps L3 g3 h
  have A5 : ∀ w', Keeps w3 w' → Calls Tryd.prog 15 #[.iface 59 (.pointer (some ⟨q, 0, none⟩)), .int .i64 33] w' fun e w'' => e = .returned (.bool true) ∧ w' = w'' := fun w' h => has_keeps c2 (by decide) h
  have A6 : ∀ w', Keeps w3 w' → Calls Tryd.prog 15 #[.iface 59 (.pointer (some ⟨q, 0, none⟩)), .int .i64 11] w' fun e w'' => e = .returned (.bool true) ∧ w' = w'' := fun w' h => has_keeps c2 (by decide) h
  have A7 : ∀ w', Keeps w3 w' → Calls Tryd.prog 15 #[.iface 59 (.pointer (some ⟨q, 0, none⟩)), .int .i64 12] w' fun e w'' => e = .returned (.bool false) ∧ w' = w'' := fun w' h => has_keeps c2 (by decide) h
  have A8 : ∀ w', Keeps w3 w' → Calls Tryd.prog 15 #[.iface 59 (.pointer (some ⟨p, 0, none⟩)), .int .i64 33] w' fun e w'' => e = .returned (.bool false) ∧ w' = w'' := fun w' h => has_keeps c1 (by decide) h
  have k0 := Keeps.refl w3
  clear f3 g3 c1 c2 L3 k3 hb3 hw3 hq H F2 B2
  go_wp2_with fail
  refine (A1 _ k0).mono ?_; rintro e w4 ⟨rfl, k4⟩
  go_wp2_with fail
  refine (A2 _ k4).mono ?_; rintro e w5 ⟨rfl, k5⟩
  go_wp2_with fail
  refine (A3 _ k5).mono ?_; rintro e w6 ⟨rfl, k6⟩
  go_wp2_with fail
  refine (A4 _ k6).mono ?_; rintro e w7 ⟨rfl, k7⟩
  go_wp2_with fail
  refine (A5 _ k7).mono ?_; rintro e w' ⟨rfl, rfl⟩
  go_wp2_with fail
  refine (A6 _ k7).mono ?_; rintro e w' ⟨rfl, rfl⟩
  go_wp2_with fail
  refine (A7 _ k7).mono ?_; rintro e w' ⟨rfl, rfl⟩
  go_wp2_with fail
  refine (A8 _ k7).mono ?_; rintro e w' ⟨rfl, rfl⟩
  go_wp2_with fail
  go_ret
  exact ⟨rfl, B3.out.trans (k7.out.mono B3.out.size)⟩
end Go.Proofs.YtgoicbgoelaomaaDoor.utfNames
