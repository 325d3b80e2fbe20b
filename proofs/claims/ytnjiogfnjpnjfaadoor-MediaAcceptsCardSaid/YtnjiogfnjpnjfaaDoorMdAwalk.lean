/- The law on what may be read as JSON: for any input it returns true. -/
import Derived.Test.YtnjiogfnjpnjfaaDoorMdSpeaks
set_option linter.unusedSimpArgs false
set_option linter.unusedVariables false
namespace Go.Proofs.YtnjiogfnjpnjfaaDoor.mediaAccepts
open Go.RowKit Go.Proofs.YtnjiogfnjpnjfaaDoor.errs Go.Proofs.YtnjiogfnjpnjfaaDoor.media

set_option maxRecDepth 100000 in
set_option maxHeartbeats 2000000 in
theorem main (s : ByteArray) (hs : s.size ≤ 1500) (w : World) (hH : Laid w) :
    Calls Tryd.prog 4 #[.string s] w fun e w' => e = .returned (.bool true) ∧ Below w.heap.size w w' := by
  have S := speaks_any w
  have P := fun w => accept_any s (by omega) w
  have R := fun w => raccept_any s (by omega) w
  have GB := bad_known s
  have x1 : ¬ (1500 : Int) < (s.size : Int) := by omega
  generalize mediaOf s = o at *
  have HL := Lib.hid hH
  clear hH
  go_enter Tryd.func4, Tryd.ntmps4
  go_wp2_with fail
  refine S.mono ?_; rintro e w1 ⟨rfl, hb⟩
  have K1 := Lib.hid hb
  clear hb S
  go_wp2_with fail
  refine (P _).mono ?_; rintro e w2 ⟨x, rfl, hx, hb⟩
  have K2 : Hid (Below w.heap.size w w2) := K1.out.trans (hb.mono K1.out.size)
  have HX := Lib.hid hx
  clear hb K1 hx P
  go_wp2_with fail
  refine (R _).mono ?_; rintro e w3 ⟨rfl, hb⟩
  have K3 : Hid (Below w.heap.size w w3) := K2.out.trans (hb.mono K2.out.size)
  have KK : Hid (Keeps w2 w3) := hb
  have L2 : Hid (Laid w2) := HL.out.below K2.out (Nat.le_refl _)
  clear hb R HL
  cases o with
  | bad k a =>
    obtain ⟨v, f1, f2⟩ := HX.out
    have hk := GB k a rfl
    have hch : Chain w2 [42, (k : Int)] x := f1.chain (f2.chain .nil)
    have F1 := Lib.hid f1
    obtain ⟨b, rfl, -⟩ := f1
    have x0 : ((k : Int) == 0) = false := beq_eq_false_iff_ne.2 (by omega)
    have CK := kind_keeps L2.out F1.out KK.out
    have HA := fun (W : World) (hW : Keeps w2 W) => at_keeps L2.out F1.out hW
    have HS := fun (W : World) (hW : Keeps w2 W) => has_keeps (n := (k : Int)) (t := true) hch (by
      rcases hk with ⟨rfl, -⟩ | ⟨rfl, -⟩ | ⟨rfl, -⟩ | ⟨rfl, -⟩ <;> rfl) hW
    have HAh := Lib.hid HA
    have HSh := Lib.hid HS
    clear HX hch F1 f2 hk GB HA HS L2
    simp only [rkOf, rfOf]
    go_wp2_with fail
    refine CK.mono ?_; rintro e w4 ⟨rfl, hb⟩
    have CA := HAh.out w4 hb
    have B4 := Lib.hid hb
    clear hb CK
    go_wp2_with fail
    refine CA.mono ?_; rintro e w5 ⟨rfl, hb⟩
    have CS := HSh.out w5 hb
    have B5 := Lib.hid hb
    clear hb CA
    go_wp2_with fail
    refine CS.mono ?_; rintro e w6 ⟨rfl, rfl⟩
    go_wp2_with fail
    go_ret
    exact ⟨rfl, K2.out.trans (B5.out.out.mono K2.out.size)⟩
  | good t u ps =>
    rcases HX.out with ⟨hf, rfl⟩ | ⟨hf, f1⟩
    · have hr : rkOf (.good t u ps) = 0 := by show (if fits t u ps then 0 else 42) = 0; rw [hf]; rfl
      rw [hr]
      have CK := kind_nil w3
      clear HX hf hr GB L2
      simp only [rfOf]
      go_wp2_with fail
      refine CK.mono ?_; rintro e w4 ⟨rfl, rfl⟩
      go_wp2_with fail
      go_ret
      exact ⟨rfl, K3.out⟩
    · have hr : rkOf (.good t u ps) = 42 := by show (if fits t u ps then 0 else 42) = 42; rw [hf]; rfl
      rw [hr]
      have F1 := Lib.hid f1
      obtain ⟨b, rfl, -⟩ := f1
      have CK := kind_keeps L2.out F1.out KK.out
      have HAh := Lib.hid (fun (W : World) (hW : Keeps w2 W) => at_keeps L2.out F1.out hW)
      clear HX hf hr GB L2 F1
      simp only [rfOf]
      go_wp2_with fail
      refine CK.mono ?_; rintro e w4 ⟨rfl, hb⟩
      have CA := HAh.out w4 hb
      have B4 := Lib.hid hb
      clear hb CK
      go_wp2_with fail
      refine CA.mono ?_; rintro e w5 ⟨rfl, hb⟩
      have B5 := Lib.hid hb
      clear hb CA
      go_wp2_with fail
      go_ret
      exact ⟨rfl, K2.out.trans (B5.out.out.mono K2.out.size)⟩

theorem law (s : ByteArray) (w : World) (hs : s.size ≤ maxLen) (hH : Laid w) :
    Calls Tryd.prog 4 #[.string s] w fun e w' => e = .returned (.bool true) ∧ Below w.heap.size w w' := by
  unfold maxLen at hs
  by_cases hbig : 1500 < s.size
  · have S := speaks_any w
    have x1 : (1500 : Int) < (s.size : Int) := by omega
    clear hbig hH
    go_enter Tryd.func4, Tryd.ntmps4
    go_wp2_with fail
    refine S.mono ?_; rintro e w1 ⟨rfl, hb1⟩
    have K1 := Lib.hid hb1
    clear hb1 S
    go_wp2_with fail
    go_ret
    exact ⟨rfl, K1.out⟩
  · exact main s (by omega) w hH
end Go.Proofs.YtnjiogfnjpnjfaaDoor.mediaAccepts
