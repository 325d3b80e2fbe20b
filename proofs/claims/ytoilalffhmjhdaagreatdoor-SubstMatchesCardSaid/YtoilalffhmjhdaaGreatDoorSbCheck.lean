/- glob.Check, subst.right: what is wrong with a pattern; whether a text is characters' bytes. -/
import Derived.Test.YtoilalffhmjhdaaGreatDoorSbPattern
import Derived.Test.YtoilalffhmjhdaaGreatDoorGlCheck
set_option linter.unusedSimpArgs false
set_option linter.unusedVariables false
namespace Go.Proofs.YtoilalffhmjhdaaGreatDoor.subst
open Go.RowKit Go.Proofs.YtoilalffhmjhdaaGreatDoor.errs Go.Proofs.YtoilalffhmjhdaaGreatDoor.rows Go.Proofs.YtoilalffhmjhdaaGreatDoor.utf Go.Proofs.YtoilalffhmjhdaaGreatDoor.chars Go.Proofs.YtoilalffhmjhdaaGreatDoor.gmath Go.Proofs.YtoilalffhmjhdaaGreatDoor.glref

/-- What Check answers. -/
def CheckOut (r : Int × Int) (w : World) (e : Ending) (w' : World) : Prop := if r.1 = 0 then e = .returned .nilIface ∧ Below w.heap.size w w' else Failed w e w' r.1 r.2 id

set_option maxRecDepth 100000 in
set_option maxHeartbeats 2000000 in
theorem check_any (p : ByteArray) (hz : p.size ≤ 1000000) (w : World) (hT : Tabs w) :
    Calls Tryz.prog 24 #[.string p] w fun e w' => CheckOut (checkOf p) w e w' := by
  unfold checkOf
  by_cases hb : 1024 < p.size
  · rw [if_pos hb]
    have y0 : (1024 : Int) < (p.size : Int) := by omega
    clear hb
    have FA := fun w => (fail_any 14 1024 w).mono (R' := fun e w' => Failed w e w' 14 1024 id) (fun e w' ⟨h1, h2⟩ => by subst h1 h2; exact failed_new w w (Below.refl _ _) 14 1024 id)
    go_enter Tryz.func24, Tryz.ntmps24
    go_wp2_with fail
    refine ((FA _).mono Failed.opened).mono ?_; rintro e w1 ⟨bb, rfl, h1⟩
    go_wp2_with fail
    go_ret
    exact ⟨_, rfl, h1.out.1, h1.out.2⟩
  · rw [if_neg hb]
    have y0 : (p.size : Int) ≤ 1024 := by omega
    obtain ⟨v, W, hcv, hsl⟩ := bytes_new p hz w
    have C := valid_any p v W (hT.below hsl.out.2 (Nat.le_refl _)) hsl.out.1
    have hcv := hcv.out
    have K : Aside (Below w.heap.size w W) := hsl.out.2
    clear hb hsl
    cases hf : firstBad p with
    | none =>
      rw [hf] at C
      have C : Calls Tryz.prog 43 #[v] W fun e w' => e = .returned .nilIface ∧ Below W.heap.size W w' := C
      clear hf
      go_enter Tryz.func24, Tryz.ntmps24
      go_wp2_with fail
      refine C.mono ?_; rintro e w1 ⟨rfl, h1⟩
      have K1 : Aside (Below w.heap.size w w1) := Keeps.step K.out h1
      clear h1 C
      go_wp2_with fail
      go_ret
      exact ⟨rfl, K1.out⟩
    | some i =>
      rw [hf] at C
      have C : Calls Tryz.prog 43 #[v] W fun e w' => ∃ bb, e = .returned (.iface 58 (.pointer (some ⟨bb, 0, none⟩))) ∧ Aside (FaultAt w' (.iface 58 (.pointer (some ⟨bb, 0, none⟩))) 12 i .nilIface ∧ Below W.heap.size W w') := C.mono Failed.opened
      clear hf
      go_enter Tryz.func24, Tryz.ntmps24
      go_wp2_with fail
      refine C.mono ?_; rintro e w1 ⟨bb, rfl, h1⟩
      have K1 : Aside (Below w.heap.size w w1) := Keeps.step K.out h1.out.2
      go_wp2_with fail
      go_ret
      exact ⟨_, rfl, h1.out.1, K1.out⟩
/-- Is a pattern right? -/
def okP (s : ByteArray) : Bool := decide ((checkOf s).1 = 0)
theorem check_ok {p : ByteArray} (h : okP p = true) (hz : p.size ≤ 1000000) (w : World) (hT : Tabs w) :
    Calls Tryz.prog 24 #[.string p] w fun e w' => e = .returned .nilIface ∧ Below w.heap.size w w' :=
  (check_any p hz w hT).mono fun e w' q => by unfold CheckOut at q; rwa [if_pos (of_decide_eq_true h)] at q
theorem check_wrong {p : ByteArray} (h : okP p = false) (hz : p.size ≤ 1000000) (w : World) (hT : Tabs w) :
    Calls Tryz.prog 24 #[.string p] w fun e w' => ∃ bb, e = .returned (.iface 58 (.pointer (some ⟨bb, 0, none⟩))) ∧ Aside (FaultAt w' (.iface 58 (.pointer (some ⟨bb, 0, none⟩))) (checkOf p).1 (checkOf p).2 .nilIface ∧ Below w.heap.size w w') :=
  (check_any p hz w hT).mono fun e w' q => by
    unfold CheckOut at q
    rw [if_neg (of_decide_eq_false h)] at q
    exact Failed.opened e w' q
set_option maxRecDepth 100000 in
set_option maxHeartbeats 2000000 in
theorem right_any (s : ByteArray) (hz : s.size ≤ 1000000) (w : World) (hT : Tabs w) :
    Calls Tryz.prog 30 #[.string s] w fun e w' => e = .returned (.bool (firstBad s).isNone) ∧ Below w.heap.size w w' := by
  obtain ⟨v, W, hcv, hsl⟩ := bytes_new s hz w
  have C := valid_any s v W (hT.below hsl.out.2 (Nat.le_refl _)) hsl.out.1
  have hcv := hcv.out
  have K : Aside (Below w.heap.size w W) := hsl.out.2
  clear hsl
  cases hf : firstBad s with
  | none =>
    rw [hf] at C
    have C : Calls Tryz.prog 43 #[v] W fun e w' => e = .returned .nilIface ∧ Below W.heap.size W w' := C
    clear hf
    go_enter Tryz.func30, Tryz.ntmps30
    go_wp2_with fail
    refine C.mono ?_; rintro e w1 ⟨rfl, h1⟩
    have K1 : Aside (Below w.heap.size w w1) := Keeps.step K.out h1
    clear h1 C
    go_wp2_with fail
    go_ret
    exact ⟨rfl, K1.out⟩
  | some i =>
    rw [hf] at C
    have C : Calls Tryz.prog 43 #[v] W fun e w' => ∃ bb, e = .returned (.iface 58 (.pointer (some ⟨bb, 0, none⟩))) ∧ Aside (FaultAt w' (.iface 58 (.pointer (some ⟨bb, 0, none⟩))) 12 i .nilIface ∧ Below W.heap.size W w') := C.mono Failed.opened
    clear hf
    go_enter Tryz.func30, Tryz.ntmps30
    go_wp2_with fail
    refine C.mono ?_; rintro e w1 ⟨bb, rfl, h1⟩
    have K1 : Aside (Below w.heap.size w w1) := Keeps.step K.out h1.out.2
    clear h1
    go_wp2_with fail
    go_ret
    exact ⟨rfl, K1.out⟩
end Go.Proofs.YtoilalffhmjhdaaGreatDoor.subst
