/- The document's examples of layer 17. -/
import Derived.Test.YtnjiogfnjpnjfaaDoorMdAccept
set_option linter.unusedSimpArgs false
set_option linter.unusedVariables false
namespace Go.Proofs.YtnjiogfnjpnjfaaDoor.media
open Go.RowKit Go.Proofs.YtnjiogfnjpnjfaaDoor.errs

def exOne : ByteArray := ⟨#[65, 112, 112, 108, 105, 99, 97, 116, 105, 111, 110, 47, 74, 83, 79, 78, 59, 32, 67, 104, 97, 114, 115, 101, 116, 61, 34, 85, 84, 70, 45, 56, 34]⟩
def exTwo : ByteArray := ⟨#[116, 101, 120, 116, 47, 104, 116, 109, 108]⟩
theorem twin_nil : twin [] = false := twin_no (fun ⟨i, k, h1, h2, h3⟩ => by simp at h2)
theorem twin_one (p : It) : twin [p] = false := twin_no (fun ⟨i, k, h1, h2, h3⟩ => by simp at h2; omega)
theorem read_one : readC exOne.data.toList = some ((T appL, T jsonL), [⟨csN, ⟨#[85, 84, 70, 45, 56]⟩, true⟩]) := by kernel_rfl
theorem read_two : readC exTwo.data.toList = some ((T [116, 101, 120, 116], T [104, 116, 109, 108]), []) := by kernel_rfl
theorem media_one : mediaOf exOne = .good (T appL) (T jsonL) [⟨csN, ⟨#[85, 84, 70, 45, 56]⟩, true⟩] := by
  unfold mediaOf
  rw [if_neg (by decide), read_one]
  simp only
  rw [if_neg (by decide), twin_one, if_neg (by decide)]
theorem media_two : mediaOf exTwo = .good (T [116, 101, 120, 116]) (T [104, 116, 109, 108]) [] := by
  unfold mediaOf
  rw [if_neg (by decide), read_two]
  simp only
  rw [if_neg (by decide), twin_nil, if_neg (by decide)]
theorem fits_one : fits (T appL) (T jsonL) [⟨csN, ⟨#[85, 84, 70, 45, 56]⟩, true⟩] = true := by
  have hj : isJson (T appL) (T jsonL) = true := by
    unfold isJson
    rw [empty_list, empty_list, empty_list]
    decide +kernel
  have hn : named csN ⟨csN, ⟨#[85, 84, 70, 45, 56]⟩, true⟩ = true := by
    unfold named
    rw [str_same]
    exact decide_eq_true rfl
  have hv : paramV [⟨csN, ⟨#[85, 84, 70, 45, 56]⟩, true⟩] csN = ⟨#[85, 84, 70, 45, 56]⟩ := by
    unfold paramV foundIn
    rw [List.find?_cons_of_pos hn]
  unfold fits
  rw [hj, hv, show (lowS ⟨#[85, 84, 70, 45, 56]⟩).toList = utfL by rw [Lib.toList_data]; kernel_rfl]
  cases paramB [⟨csN, ⟨#[85, 84, 70, 45, 56]⟩, true⟩] csN <;> decide +kernel
theorem fits_two : fits (T [116, 101, 120, 116]) (T [104, 116, 109, 108]) [] = false := by
  have hj : isJson (T [116, 101, 120, 116]) (T [104, 116, 109, 108]) = false := by
    unfold isJson
    rw [empty_list, empty_list, empty_list]
    decide +kernel
  unfold fits
  rw [hj]; rfl

set_option maxRecDepth 100000 in
set_option maxHeartbeats 1000000 in
theorem speaks_any (w : World) :
    Calls Tryd.prog 6 #[] w fun e w' => e = .returned (.bool true) ∧ Below w.heap.size w w' := by
  have A1 : ∀ w, Calls Tryd.prog 14 #[.string ⟨#[65, 112, 112, 108, 105, 99, 97, 116, 105, 111, 110, 47, 74, 83, 79, 78, 59, 32, 67, 104, 97, 114, 115, 101, 116, 61, 34, 85, 84, 70, 45, 56, 34]⟩] w fun e w' => e = .returned .nilIface ∧ Below w.heap.size w w' := fun w => by
    refine (accept_any exOne (by decide) w).mono ?_
    rintro e w' ⟨x, rfl, hx, hb⟩
    rw [media_one] at hx
    rcases hx with ⟨-, rfl⟩ | ⟨h, -⟩
    · exact ⟨rfl, hb⟩
    · rw [fits_one] at h; cases h
  have A2 : ∀ w, Calls Tryd.prog 14 #[.string ⟨#[116, 101, 120, 116, 47, 104, 116, 109, 108]⟩] w fun e w' => ∃ b, e = .returned (.iface 62 (.pointer (some ⟨b, 0, none⟩))) ∧ Hid (FaultAt w' (.iface 62 (.pointer (some ⟨b, 0, none⟩))) 42 0 .nilIface) ∧ Hid (Below w.heap.size w w') := fun w => by
    refine (accept_any exTwo (by decide) w).mono ?_
    rintro e w' ⟨x, rfl, hx, hb⟩
    rw [media_two] at hx
    rcases hx with ⟨h, -⟩ | ⟨-, h⟩
    · rw [fits_two] at h; cases h
    · have hx := h
      obtain ⟨b, rfl, -⟩ := h
      exact ⟨b, rfl, hx, hb⟩
  have HA := has_any
  go_enter Tryd.func6, Tryd.ntmps6
  go_wp2_with fail
  refine (A1 _).mono ?_; rintro e w1 ⟨rfl, hb⟩
  have K1 := Lib.hid hb
  clear hb
  go_wp2_with fail
  refine (A2 _).mono ?_; rintro e w2 ⟨b, rfl, hf, hb⟩
  have K2 : Hid (Below w.heap.size w w2) := K1.out.trans (hb.out.mono K1.out.size)
  have CH : ∀ n, Calls Tryd.prog 18 #[.iface 62 (.pointer (some ⟨b, 0, none⟩)), .int .i64 n] w2 fun e w' => e = .returned (.bool (tells [42] n)) ∧ w2 = w' := fun n => HA [42] _ n w2 (hf.out.chain .nil)
  have C := CH 42
  rw [show tells [42] 42 = true from rfl] at C
  clear hb hf CH HA
  go_wp2_with fail
  refine C.mono ?_; rintro e w3 ⟨rfl, rfl⟩
  go_wp2_with fail
  go_ret
  exact ⟨rfl, K2.out⟩
end Go.Proofs.YtnjiogfnjpnjfaaDoor.media
