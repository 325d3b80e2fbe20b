/- The document's examples of layer 26; which types may be used. -/
import Derived.Test.YtelofhplpeeplaaDoorWrJudge
set_option linter.unusedSimpArgs false
set_option linter.unusedVariables false
namespace Go.Proofs.YtelofhplpeeplaaDoor.wire
open Go.RowKit Go.Proofs.YtelofhplpeeplaaDoor.errs Go.Proofs.YtelofhplpeeplaaDoor.media

def htmlS : ByteArray := ⟨#[116, 101, 120, 116, 47, 104, 116, 109, 108]⟩
def jsonS : ByteArray := ⟨#[97, 112, 112, 108, 105, 99, 97, 116, 105, 111, 110, 47, 106, 115, 111, 110, 59, 32, 99, 104, 97, 114, 115, 101, 116, 61, 117, 116, 102, 45, 56]⟩
theorem twin_nil : twin [] = false := twin_no (fun ⟨i, k, h1, h2, h3⟩ => by simp at h2)
theorem twin_one (p : It) : twin [p] = false := twin_no (fun ⟨i, k, h1, h2, h3⟩ => by simp at h2; omega)
theorem read_html : readC htmlS.data.toList = some ((T [116, 101, 120, 116], T [104, 116, 109, 108]), []) := by kernel_rfl
theorem read_json : readC jsonS.data.toList = some ((T appL, T jsonL), [⟨csN, ⟨#[117, 116, 102, 45, 56]⟩, true⟩]) := by kernel_rfl
theorem read_none : readC [] = none := by kernel_rfl
theorem media_html : mediaOf htmlS = .good (T [116, 101, 120, 116]) (T [104, 116, 109, 108]) [] := by
  unfold mediaOf
  rw [if_neg (by decide), read_html]
  simp only
  rw [if_neg (by decide), twin_nil, if_neg (by decide)]
theorem media_json : mediaOf jsonS = .good (T appL) (T jsonL) [⟨csN, ⟨#[117, 116, 102, 45, 56]⟩, true⟩] := by
  unfold mediaOf
  rw [if_neg (by decide), read_json]
  simp only
  rw [if_neg (by decide), twin_one, if_neg (by decide)]
theorem media_none : mediaOf ⟨#[]⟩ = .bad 11 0 := by
  unfold mediaOf
  rw [if_neg (by decide), show (⟨#[]⟩ : ByteArray).data.toList = [] from rfl, read_none]
theorem fits_json : fits (T appL) (T jsonL) [⟨csN, ⟨#[117, 116, 102, 45, 56]⟩, true⟩] = true := by
  have hj : isJson (T appL) (T jsonL) = true := by
    unfold isJson
    rw [empty_list, empty_list, empty_list]
    decide +kernel
  have hn : named csN ⟨csN, ⟨#[117, 116, 102, 45, 56]⟩, true⟩ = true := by
    unfold named
    rw [str_same]
    exact decide_eq_true rfl
  have hv : paramV [⟨csN, ⟨#[117, 116, 102, 45, 56]⟩, true⟩] csN = ⟨#[117, 116, 102, 45, 56]⟩ := by
    unfold paramV foundIn
    rw [List.find?_cons_of_pos hn]
  unfold fits
  rw [hj, hv, show (lowS ⟨#[117, 116, 102, 45, 56]⟩).toList = utfL by rw [Lib.toList_data]; kernel_rfl]
  cases paramB [⟨csN, ⟨#[117, 116, 102, 45, 56]⟩, true⟩] csN <;> decide +kernel
theorem fits_html : fits (T [116, 101, 120, 116]) (T [104, 116, 109, 108]) [] = false := by
  have hj : isJson (T [116, 101, 120, 116]) (T [104, 116, 109, 108]) = false := by
    unfold isJson
    rw [empty_list, empty_list, empty_list]
    decide +kernel
  unfold fits
  rw [hj]; rfl
theorem typed_html (ap : Bool) : typed ap htmlS = false := by
  unfold typed
  rw [media_html, show rkOf (.good (T [116, 101, 120, 116]) (T [104, 116, 109, 108]) []) = 42 by show (if fits _ _ _ then 0 else 42) = 42; rw [fits_html]; rfl]
  cases ap <;> rfl
theorem typed_json (ap : Bool) : typed ap jsonS = true := by
  unfold typed
  rw [media_json, show rkOf (.good (T appL) (T jsonL) [⟨csN, ⟨#[117, 116, 102, 45, 56]⟩, true⟩]) = 0 by show (if fits _ _ _ then 0 else 42) = 0; rw [fits_json]; rfl]
  cases ap <;> rfl
theorem typed_none (ap : Bool) : typed ap ⟨#[]⟩ = ap := by
  unfold typed
  rw [media_none]
  cases ap <;> rfl
theorem jk_html : jk true 200 false false htmlS 0 = 42 := by
  unfold jk
  rw [typed_html]
  rfl
theorem jk_404 : jk false 404 false false ⟨#[]⟩ 0 = 40 := rfl

set_option maxRecDepth 100000 in
set_option maxHeartbeats 1000000 in
theorem speaks_any (w : World) (hL : Laid w) :
    Calls Tryd.prog 7 #[] w fun e w' => e = .returned (.bool true) ∧ Below w.heap.size w w' := by
  have A1 := fun w => judge_any true 0 200 false false htmlS ⟨#[]⟩ none 0 0 (by decide) w
  have A2 := fun w => judge_any false 0 404 false false ⟨#[]⟩ ⟨#[]⟩ none 0 0 (by decide) w
  rw [jk_html] at A1
  rw [jk_404] at A2
  unfold htmlS at A1
  have HL := Lib.hid hL
  clear hL
  go_enter Tryd.func7, Tryd.ntmps7
  go_wp2_with fail
  refine (A1 _).mono ?_; rintro e w1 ⟨x, rfl, hx, hb⟩
  have K1 : Hid (Below w.heap.size w w1 ∧ JIs 42 w1 x) := ⟨hb, hx⟩
  clear hb hx
  go_wp2_with fail
  refine (A2 _).mono ?_; rintro e w2 ⟨y, rfl, hy, hb⟩
  have L2 : Laid w2 := HL.out.below (K1.out.1.trans (hb.mono K1.out.1.size)) (Nat.le_refl _)
  have K2 : Hid (Below w.heap.size w w2) := K1.out.1.trans (hb.mono K1.out.1.size)
  have C1 : Calls Tryd.prog 9 #[x] w2 fun e w' => e = .returned (.int .i64 42) ∧ Below w2.heap.size w2 w' := by
    rcases K1.out.2 with ⟨h, -⟩ | ⟨-, v, hf⟩
    · cases h
    · exact kind_fault x v 42 0 w2 L2 (hf.below hb (Nat.le_refl _))
  have HC2 : Hid (∀ W, Keeps w2 W → Calls Tryd.prog 9 #[y] W fun e w' => e = .returned (.int .i64 40) ∧ Keeps w2 w') := fun W hW => jkind L2 hy hW
  clear hb L2 K1 hy
  go_wp2_with fail
  refine C1.mono ?_; rintro e w3 ⟨rfl, hb⟩
  have C2 := HC2.out w3 hb
  clear hb HC2 C1
  go_wp2_with fail
  refine C2.mono ?_; rintro e w4 ⟨rfl, hb⟩
  have K4 : Hid (Below w.heap.size w w4) := K2.out.trans (hb.out.mono K2.out.size)
  clear hb C2
  go_wp2_with fail
  go_ret
  exact ⟨rfl, K4.out⟩
end Go.Proofs.YtelofhplpeeplaaDoor.wire
