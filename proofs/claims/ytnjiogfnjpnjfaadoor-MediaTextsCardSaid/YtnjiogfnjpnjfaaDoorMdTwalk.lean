/- The law on kinds' texts: for any input it returns true. -/
import Derived.Test.YtnjiogfnjpnjfaaDoorMdSpeaks
import Derived.Test.YtnjiogfnjpnjfaaDoorMdFind
import Derived.Test.YtnjiogfnjpnjfaaDoorMdJson
import Derived.Test.YtnjiogfnjpnjfaaDoorMdRtext
import Derived.Test.YtnjiogfnjpnjfaaDoorMdGreat
import Derived.Test.YtnjiogfnjpnjfaaDoorMdFrame
import Derived.Test.YtnjiogfnjpnjfaaDoorMdCls
import Derived.Deep.DeepCutAuto
import Derived.Deep.RegionWith
set_option linter.unusedSimpArgs false
set_option linter.unusedVariables false
namespace Go.Proofs.YtnjiogfnjpnjfaaDoor.mediaTexts
open Go.RowKit Go.Proofs.YtnjiogfnjpnjfaaDoor.errs Go.Proofs.YtnjiogfnjpnjfaaDoor.media Go.Proofs.YtnjiogfnjpnjfaaDoor.mcls

set_option maxRecDepth 100000 in
set_option maxHeartbeats 4000000 in
theorem law (t u : ByteArray) (ad : Option Addr) (n c : Nat) (ps : List It) (nm : ByteArray) (w : World) (hin : ItemsIn w (.slice ad n c) ps ∧ t.size ≤ maxLen ∧ u.size ≤ maxLen ∧ n ≤ maxLen) (hnm : nm.size ≤ maxLen) :
    Calls Tryd.prog 3 #[.agg #[.string t, .string u, .slice ad n c], .string nm] w fun e w' => e = .returned (.bool true) ∧ Below w.heap.size w w' := by
  obtain ⟨hI, ht, hu, hnb⟩ := hin
  have S := fun w => speaks_any w
  have G := fun w h => great_any t u ad n c ps w h ht hu hnb
  unfold maxLen at ht hu hnb hnm
  have hl := hI.len.1
  have HI := Lib.hid hI
  have HL := Lib.hid hl
  clear hI hl
  go_enter Tryd.func3, Tryd.ntmps3
  go_wp2_with fail
  refine (S _).mono ?_; rintro e w1 ⟨rfl, hb⟩
  have K1 : Hid (Below w.heap.size w w1) := chain (up _ _) hb
  have B1 : Hid (Box w1 w.heap.size t u (.slice ad n c)) := (Box.new _ _ _ _ _).below hb
  have I1 : Hid (ItemsIn w1 (.slice ad n c) ps) := (HI.out.below (up _ _)).below hb
  have CG := G _ I1.out
  clear hb S HI G
  obtain ⟨d0, d1, d2⟩ := B1.out
  go_wp2_with fail
  refine CG.mono ?_; rintro e w2 ⟨q, rfl, hb, hq⟩
  have K2 : Hid (Below w.heap.size w w2) := chain K1.out hb
  have B2 : Hid (Box w2 w.heap.size t u (.slice ad n c)) := B1.out.below hb
  have I2 : Hid (ItemsIn w2 (.slice ad n c) ps) := I1.out.below hb
  clear hb CG K1 B1 I1 d0 d1 d2
  cases q with
  | true =>
    clear hq B2 I2
    go_wp2_with fail
    go_ret
    exact ⟨rfl, K2.out⟩
  | false =>
    obtain ⟨q1, q2, q3, q4⟩ := hq rfl
    have hv : ∀ p ∈ ps, p.name.size ≤ 300 ∧ p.value.size ≤ 300 := fun p hp => by
      obtain ⟨j, hj, rfl⟩ := List.mem_iff_getElem.1 hp
      have e : itAt ps j = ps[j] := by unfold itAt; rw [List.getD_eq_getElem?_getD, List.getElem?_eq_getElem hj]; rfl
      rw [← e]
      exact q4 j (by rw [← HL.out]; exact hj)
    by_cases hbig : 300 < nm.size
    · have x1 : (300 : Int) < (nm.size : Int) := by omega
      clear hbig hq q4 hv B2 I2
      go_wp2_with fail
      go_ret
      exact ⟨rfl, K2.out⟩
    · have x1 : ¬ (300 : Int) < (nm.size : Int) := by omega
      have CP := param_any t u ad n c ps nm w2 I2.out (by omega) (fun p hp => by have := (hv p hp).2; omega)
      have CQ := fun w h => rparam2_any t u ad n c ps nm w h (by omega)
      have CT := fun w h => text_any t u ad n c ps w h (by omega) (by omega) (by omega) (fun p hp => by have := hv p hp; omega)
      have CR := fun w h => rtext_any t u ad n c ps w h (by omega) (by omega) (by omega) (fun p hp => by have := hv p hp; omega)
      have CJ := fun w => json_any t u ad n c w (by omega)
      have CK := fun w => rjson_any t u ad n c w (by omega)
      clear hq q4 hv hbig q1 q2 q3 HL
      generalize paramV ps nm = V at *
      generalize paramB ps nm = B at *
      generalize T (textL t u ps) = TT at *
      generalize isJson t u = J at *
      obtain ⟨d0, d1, d2⟩ := B2.out
      go_wp2_with fail
      refine CP.mono ?_; rintro e w3 ⟨rfl, hb⟩
      have K3 : Hid (Below w.heap.size w w3) := chain K2.out hb
      have B3 : Hid (Box w3 w.heap.size t u (.slice ad n c)) := B2.out.below hb
      have I3 : Hid (ItemsIn w3 (.slice ad n c) ps) := I2.out.below hb
      have CQ3 := CQ _ I3.out
      clear hb CP K2 B2 I2 d0 d1 d2 CQ
      obtain ⟨d0, d1, d2⟩ := B3.out
      go_wp2_with fail
      refine CQ3.mono ?_; rintro e w4 ⟨rfl, hb⟩
      have K4 : Hid (Below w.heap.size w w4) := chain K3.out hb
      have B4 : Hid (Box w4 w.heap.size t u (.slice ad n c)) := B3.out.below hb
      have I4 : Hid (ItemsIn w4 (.slice ad n c) ps) := I3.out.below hb
      clear hb CQ3 K3 B3 I3 d0 d1 d2
      have HL : Hid (∀ W, Kp w4 W → Box W w.heap.size t u (.slice ad n c)) := fun W h => B4.out.below h
      have C1 : Hid (∀ W, Kp w4 W → Calls Tryd.prog 10 #[.agg #[.string t, .string u, .slice ad n c]] W fun e w' => e = .returned (.string TT) ∧ Kp w4 w') := fun W h => (CT W (I4.out.below h)).mono fun e w' ⟨h1, h2⟩ => ⟨h1, h.step h2⟩
      have C2 : Hid (∀ W, Kp w4 W → Calls Tryd.prog 11 #[.agg #[.string t, .string u, .slice ad n c]] W fun e w' => e = .returned (.string TT) ∧ Kp w4 w') := fun W h => (CR W (I4.out.below h)).mono fun e w' ⟨h1, h2⟩ => ⟨h1, h.step h2⟩
      have C3 : Hid (∀ W, Kp w4 W → Calls Tryd.prog 12 #[.agg #[.string t, .string u, .slice ad n c]] W fun e w' => e = .returned (.bool J) ∧ Kp w4 w') := fun W h => (CJ W).mono fun e w' ⟨h1, h2⟩ => ⟨h1, h.step h2⟩
      have C4 : Hid (∀ W, Kp w4 W → Calls Tryd.prog 13 #[.agg #[.string t, .string u, .slice ad n c]] W fun e w' => e = .returned (.bool J) ∧ Kp w4 w') := fun W h => (CK W).mono fun e w' ⟨h1, h2⟩ => ⟨h1, h.step h2⟩
      have K4' := Lib.hid K4.out
      clear CT CR CJ CK B4 I4 K4
      go_wp2_with fail
      refine cq_region (by kernel_rfl) (by kernel_rfl) ?_
      (refine cq_op rfl ?_; apply Exists.intro; refine ⟨fun W hW => ?_, ?_⟩; (focus (obtain ⟨l0, l1, l2⟩ := HL.out W hW; go_simp; with_reducible rfl)); simp only [Act.put, List.setIfInBounds_toArray, List.set_cons_zero, List.set_cons_succ])
      (refine cq_call rfl _ _ (.string TT) ?_ C1.out ?_; (focus (intro W; go_simp; done)); simp only [Act.put, List.setIfInBounds_toArray, List.set_cons_zero, List.set_cons_succ])
      (refine cq_op rfl ?_; apply Exists.intro; refine ⟨fun W hW => ?_, ?_⟩; (focus (obtain ⟨l0, l1, l2⟩ := HL.out W hW; go_simp; with_reducible rfl)); simp only [Act.put, List.setIfInBounds_toArray, List.set_cons_zero, List.set_cons_succ])
      (refine cq_call rfl _ _ (.string TT) ?_ C2.out ?_; (focus (intro W; go_simp; done)); simp only [Act.put, List.setIfInBounds_toArray, List.set_cons_zero, List.set_cons_succ])
      iterate 13 (refine cq_op rfl ?_; apply Exists.intro; refine ⟨fun W hW => ?_, ?_⟩; (focus (obtain ⟨l0, l1, l2⟩ := HL.out W hW; go_simp; with_reducible rfl)); simp only [Act.put, List.setIfInBounds_toArray, List.set_cons_zero, List.set_cons_succ])
      (refine cq_call rfl _ _ (.bool J) ?_ C3.out ?_; (focus (intro W; go_simp; done)); simp only [Act.put, List.setIfInBounds_toArray, List.set_cons_zero, List.set_cons_succ])
      (refine cq_op rfl ?_; apply Exists.intro; refine ⟨fun W hW => ?_, ?_⟩; (focus (obtain ⟨l0, l1, l2⟩ := HL.out W hW; go_simp; with_reducible rfl)); simp only [Act.put, List.setIfInBounds_toArray, List.set_cons_zero, List.set_cons_succ])
      (refine cq_call rfl _ _ (.bool J) ?_ C4.out ?_; (focus (intro W; go_simp; done)); simp only [Act.put, List.setIfInBounds_toArray, List.set_cons_zero, List.set_cons_succ])
      iterate 3 (refine cq_op rfl ?_; apply Exists.intro; refine ⟨fun W hW => ?_, ?_⟩; (focus (obtain ⟨l0, l1, l2⟩ := HL.out W hW; go_simp; with_reducible rfl)); simp only [Act.put, List.setIfInBounds_toArray, List.set_cons_zero, List.set_cons_succ])
      refine wpQuiet_nil ?_
      intro W hW
      have KW := Lib.hid (chain K4'.out hW.out)
      clear hW HL C1 C2 C3 C4 K4'
      go_wp2_with fail
      go_ret
      exact ⟨rfl, KW.out⟩
end Go.Proofs.YtnjiogfnjpnjfaaDoor.mediaTexts
