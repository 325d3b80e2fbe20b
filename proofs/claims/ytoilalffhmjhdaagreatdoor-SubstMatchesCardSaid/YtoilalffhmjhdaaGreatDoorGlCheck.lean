/- The document's own answer of what is wrong with a pattern of stars and question marks. -/
import Derived.Test.YtoilalffhmjhdaaGreatDoorGlRef
import Derived.Test.YtoilalffhmjhdaaGreatDoorRefChars
import Derived.Test.YtoilalffhmjhdaaGreatDoorGlConv
set_option linter.unusedSimpArgs false
set_option linter.unusedVariables false
namespace Go.Proofs.YtoilalffhmjhdaaGreatDoor.glref
open Go.RowKit Go.Proofs.YtoilalffhmjhdaaGreatDoor.errs Go.Proofs.YtoilalffhmjhdaaGreatDoor.utf Go.Proofs.YtoilalffhmjhdaaGreatDoor.umath Go.Proofs.YtoilalffhmjhdaaGreatDoor.text Go.Proofs.YtoilalffhmjhdaaGreatDoor.chars Go.Proofs.YtoilalffhmjhdaaGreatDoor.ref Go.Proofs.YtoilalffhmjhdaaGreatDoor.gmath

/-- What is wrong with a pattern: a number, and where. -/
def checkOf (p : ByteArray) : Int × Int := if 1024 < p.size then (14, 1024) else match firstBad p with | some i => (12, i) | none => (0, 0)

set_option maxRecDepth 100000 in
set_option maxHeartbeats 2000000 in
theorem rcheck_any (p : ByteArray) (hz : p.size ≤ 1000000) (w : World) :
    Calls Tryz.prog 21 #[.string p] w fun e w' => e = .returned (.tuple #[.int .i64 (checkOf p).1, .int .i64 (checkOf p).2]) ∧ Below w.heap.size w w' := by
  unfold checkOf
  by_cases hb : 1024 < p.size
  · rw [if_pos hb]
    have y0 : (1024 : Int) < (p.size : Int) := by omega
    clear hb
    go_enter Tryz.func21, Tryz.ntmps21
    go_wp2_with fail
    go_ret2
    exact ⟨rfl, Below.refl _ _⟩
  · rw [if_neg hb]
    have y0 : (p.size : Int) ≤ 1024 := by omega
    obtain ⟨v, W, hcv, hsl⟩ := bytes_new p hz w
    have C := chars_ref p v W hsl.out.1 hz
    have hcv := hcv.out
    have K : Aside (Below w.heap.size w W) := hsl.out.2
    clear hb hsl
    cases hf : firstBad p with
    | none =>
      rw [hf] at C
      have C : Calls Tryz.prog 35 #[v] W fun e w' => ∃ v', e = .returned (.tuple #[v', .int .i64 (-1)]) ∧ Aside (w'.ownsRow W.heap.size 3 1 v' (all p).length (ints (all p)) ∧ Below W.heap.size W w') := C
      clear hf
      go_enter Tryz.func21, Tryz.ntmps21
      go_wp2_with fail
      refine C.mono ?_; rintro e w1 ⟨v1, rfl, h1⟩
      have K1 : Aside (Below w.heap.size w w1) := Keeps.step K.out h1.out.2
      clear h1 C
      go_wp2_with fail
      go_ret2
      exact ⟨rfl, K1.out⟩
    | some i =>
      rw [hf] at C
      have C : Calls Tryz.prog 35 #[v] W fun e w' => ∃ v', e = .returned (.tuple #[v', .int .i64 i]) ∧ Below W.heap.size W w' := C
      clear hf
      go_enter Tryz.func21, Tryz.ntmps21
      go_wp2_with fail
      refine C.mono ?_; rintro e w1 ⟨v1, rfl, h1⟩
      have K1 : Aside (Below w.heap.size w w1) := Keeps.step K.out h1
      clear h1 C
      go_wp2_with fail
      go_ret2
      exact ⟨rfl, K1.out⟩
end Go.Proofs.YtoilalffhmjhdaaGreatDoor.glref
