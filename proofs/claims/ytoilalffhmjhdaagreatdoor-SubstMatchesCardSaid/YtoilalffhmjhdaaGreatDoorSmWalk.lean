/- The law on patterns with variables: for any input it returns true. -/
import Derived.Test.YtoilalffhmjhdaaGreatDoorSmMatch
import Derived.Test.YtoilalffhmjhdaaGreatDoorSmPn
import Derived.Test.YtoilalffhmjhdaaGreatDoorSbSpeaks
set_option linter.unusedSimpArgs false
set_option linter.unusedVariables false
namespace Go.Proofs.YtoilalffhmjhdaaGreatDoor.substMatches
open Go.RowKit Go.Proofs.YtoilalffhmjhdaaGreatDoor.errs Go.Proofs.YtoilalffhmjhdaaGreatDoor.rows Go.Proofs.YtoilalffhmjhdaaGreatDoor.utf Go.Proofs.YtoilalffhmjhdaaGreatDoor.glref Go.Proofs.YtoilalffhmjhdaaGreatDoor.gmath Go.Proofs.YtoilalffhmjhdaaGreatDoor.chars Go.Proofs.YtoilalffhmjhdaaGreatDoor.subst

set_option maxRecDepth 100000 in
set_option maxHeartbeats 16000000 in
theorem law (p : ByteArray) (a : Option Addr) (n cap : Nat) (vs : List Vr) (s : ByteArray) (fold : Bool) (w : World) (hS : Seat w ∧ Laid w) (hpm : p.size ≤ maxLen) (hv : VarsIn w (.slice a n cap) vs) (hsm : s.size ≤ maxLen) :
    Calls Tryz.prog 3 #[.string p, .slice a n cap, .string s, .bool fold] w fun e w' => e = .returned (.bool true) ∧ Below w.heap.size w w' := by
  have HS : Hid (∀ V, Keeps w V → Seat V ∧ Laid V ∧ VarsIn V (.slice a n cap) vs) := fun V hV => ⟨hS.1.below hV, hS.2.below hV (Nat.le_refl _), hv.below hV⟩
  have SP := speaks_any w hS.1
  have GR := Lib.hid fun (V : World) (hV : Keeps w V) => great_any vs (.slice a n cap) V (hv.below hV)
  clear hS hv
  go_enter Tryz.func3, Tryz.ntmps3
  go_wp2_with fail
  refine SP.mono ?_; rintro e w1 ⟨rfl, hb⟩
  have K1 : Hid (Keeps w w1) := hb
  clear hb SP
  by_cases hp : 40 < p.size
  · have y0 : (40 : Int) < (p.size : Int) := by omega
    clear hp
    go_wp2_with fail
    go_ret
    exact ⟨rfl, K1.out⟩
  have y0 : ¬ (40 : Int) < (p.size : Int) := by omega
  by_cases hs : 24 < s.size
  · have y1 : (24 : Int) < (s.size : Int) := by omega
    clear hp hs
    go_wp2_with fail
    go_ret
    exact ⟨rfl, K1.out⟩
  have y1 : ¬ (24 : Int) < (s.size : Int) := by omega
  have G := GR.out w1 K1.out
  have HZ := Lib.hid (⟨hp, hs⟩ : _ ∧ _)
  clear hp hs GR hpm hsm
  go_wp2_with fail
  refine G.mono ?_; rintro e w2 (⟨rfl, hq⟩ | ⟨rfl, hq⟩)
  rotate_left
  · have K2 : Hid (Keeps w w2) := Keeps.step K1.out hq.out
    clear hq G
    go_wp2_with fail
    go_ret
    exact ⟨rfl, K2.out⟩
  have K2 : Hid (Keeps w w2) := Keeps.step K1.out hq.out.2
  have FW := Lib.hid hq.out.1
  clear hq G K1
  have hps : Hid (p.size ≤ 40 ∧ s.size ≤ 24) := by have := HZ.out; exact ⟨by omega, by omega⟩
  have vl : Hid (vs.length ≤ 5) := FW.out.1
  have vz : Hid (∀ x ∈ vs, x.vals.length ≤ 1000000 ∧ ∀ s ∈ x.vals, s.size ≤ 1000000) := fun x hx => by
    obtain ⟨q1, q2, q3⟩ := FW.out.2 x hx
    exact ⟨by omega, fun s hs => by have := q3 s hs; omega⟩
  have pl : Hid (p.data.toList.length ≤ 40) := by show _ ≤ _; have e : p.data.toList.length = p.size := Array.length_toList; have := hps.out; omega
  have RK : Hid (∀ V, Keeps w V → Calls Tryz.prog 7 #[.string p, .slice a n cap] V fun e w' => e = .returned (.tuple #[.int .i64 (checkS p.data.toList vs).1, .int .i64 (checkS p.data.toList vs).2]) ∧ Below V.heap.size V w') := fun V hV => rscheck_any p vs (.slice a n cap) V (by have := hps.out; omega) (HS.out V hV).2.2 (by have := vl.out; omega)
  have PK : Hid (∀ V, Keeps w V → Calls Tryz.prog 8 #[.string p, .slice a n cap] V fun e w' => CheckOut (checkS p.data.toList vs) V e w') := fun V hV => check_s p.data.toList vs (.slice a n cap) V (by have := pl.out; omega) (HS.out V hV).1.1 (HS.out V hV).1.2.1 (HS.out V hV).1.2.2 (HS.out V hV).2.2 (by have := vl.out; omega)
  have RM : Hid (∀ V, Keeps w V → Calls Tryz.prog 15 #[.string p, .slice a n cap, .string s, .bool fold] V fun e w' => e = .returned (.bool (matchS fold p.data.toList vs s)) ∧ Below V.heap.size V w') := fun V hV => rsmatch_any fold p s vs (.slice a n cap) V (by have := hps.out; omega) (by have := hps.out; omega) FW.out (HS.out V hV).2.2
  have PM : Hid (∀ V, Keeps w V → Calls Tryz.prog 14 #[.string p, .slice a n cap, .string s, .bool fold] V fun e w' => e = .returned (.bool (matchS fold p.data.toList vs s)) ∧ Below V.heap.size V w') := fun V hV => match_any fold p.data.toList vs (.slice a n cap) s V (by have := pl.out; omega) (HS.out V hV).1.1 (HS.out V hV).1.2.1 (HS.out V hV).1.2.2 (HS.out V hV).2.2 (by have := vl.out; omega) vz.out (by have := hps.out; omega)
  have RN : Hid (∀ V : World, Calls Tryz.prog 13 #[.string p] V fun e w' => ∃ v, e = .returned v ∧ Hid (StrsIn w' v (namesOf (partsOf p.data.toList)) ∧ Below V.heap.size V w')) := fun V => (rnames_any p (by have := hps.out; omega) V).mono fun e w' ⟨v, h1, h2⟩ => ⟨v, h1, h2.out.1.reads, h2.out.2⟩
  have PN : Hid (∀ V, Keeps w V → Calls Tryz.prog 12 #[.string p] V fun e w' => ∃ v, e = .returned v ∧ Hid (StrsIn w' v (namesOf (partsOf p.data.toList)) ∧ Below V.heap.size V w')) := fun V hV => (snames_any p.data.toList V (by have := pl.out; omega) (HS.out V hV).1.2.1).mono fun e w' ⟨v, h1, h2⟩ => ⟨v, h1, h2.out.1.reads, h2.out.2⟩
  have NL : Hid ((namesOf (partsOf p.data.toList)).length ≤ 1000000) := by
    show _ ≤ _
    have h1 : (namesOf (partsOf p.data.toList)).length ≤ (partsOf p.data.toList).length := by
      unfold namesOf
      rw [List.length_map]
      exact List.length_filter_le _ _
    have h2 := parts_len p.data.toList.length 0 p.data.toList
    have h3 := pl.out
    unfold partsOf at h1 ⊢
    omega
  clear hps vz pl FW HZ
  obtain ⟨rk, ra, hr⟩ : ∃ rk ra, checkS p.data.toList vs = (rk, ra) := ⟨_, _, rfl⟩
  rw [hr] at RK PK
  generalize namesOf (partsOf p.data.toList) = ns at *
  generalize matchS fold p.data.toList vs s = mt at *
  clear hr vl
  have R := RK.out w2 K2.out
  clear RK
  have bm : (mt == mt) = true := by simp
  go_wp2_with fail
  refine R.mono ?_; rintro e w3 ⟨rfl, hb⟩
  have K3 : Hid (Keeps w w3) := Keeps.step K2.out hb
  have C := PK.out w3 K3.out
  clear hb R K2 PK
  by_cases hk : rk = 0
  · subst hk
    have C : Calls Tryz.prog 8 #[.string p, .slice a n cap] w3 fun e w' => e = .returned .nilIface ∧ Below w3.heap.size w3 w' := C.mono fun e w' q => by
      unfold CheckOut at q
      rwa [if_pos rfl] at q
    go_wp2_with fail
    refine C.mono ?_; rintro e w4 ⟨rfl, hb⟩
    have K4 : Hid (Keeps w w4) := Keeps.step K3.out hb
    clear hb C K3
    go_wp2_with fail
    refine (kind_nil _).mono ?_; rintro e w5 ⟨rfl, rfl⟩
    go_wp2_with fail
    refine (PN.out _ K4.out).mono ?_; rintro e w7 ⟨v1, rfl, h7⟩
    obtain ⟨a1, c1, rfl⟩ := h7.out.1.form
    have K7 : Hid (Keeps w w7) := Keeps.step K4.out h7.out.2
    clear K4
    go_wp2_with fail
    refine (RN.out _).mono ?_; rintro e w8 ⟨v2, rfl, h8⟩
    have SM := same_true w8 (h7.out.1.below h8.out.2) h8.out.1 NL.out
    obtain ⟨a2, c2, rfl⟩ := h8.out.1.form
    have K8 : Hid (Keeps w w8) := Keeps.step K7.out h8.out.2
    clear h7 h8 K7 PN RN
    go_wp2_with fail
    refine SM.mono ?_; rintro e w9 ⟨rfl, hb⟩
    have K9 : Hid (Keeps w w9) := Keeps.step K8.out hb
    clear hb SM K8
    go_wp2_with fail
    refine (PM.out _ K9.out).mono ?_; rintro e w10 ⟨rfl, hb⟩
    have K10 : Hid (Keeps w w10) := Keeps.step K9.out hb
    clear hb K9
    go_wp2_with fail
    refine (RM.out _ K10.out).mono ?_; rintro e w11 ⟨rfl, hb⟩
    have K11 : Hid (Keeps w w11) := Keeps.step K10.out hb
    clear hb K10
    go_wp2_with fail
    go_ret
    exact ⟨rfl, K11.out⟩
  · have C : Calls Tryz.prog 8 #[.string p, .slice a n cap] w3 fun e w' => ∃ bb, e = .returned (.iface 58 (.pointer (some ⟨bb, 0, none⟩))) ∧ Aside (FaultAt w' (.iface 58 (.pointer (some ⟨bb, 0, none⟩))) rk ra .nilIface ∧ Below w3.heap.size w3 w') := C.mono fun e w' q => by
      unfold CheckOut at q
      rw [if_neg hk] at q
      exact Failed.opened e w' q
    clear hk
    go_wp2_with fail
    refine C.mono ?_; rintro e w4 ⟨bb, rfl, hq⟩
    have K40 : Hid (Keeps w w4) := Keeps.step K3.out hq.out.2
    have L4 := Lib.hid (HS.out w4 K40.out).2.1
    have KK : Hid (∀ V, Keeps w4 V → Calls Tryz.prog 9 #[.iface 58 (.pointer (some ⟨bb, 0, none⟩))] V fun e w' => e = .returned (.int .i64 rk) ∧ Keeps w4 w') := fun V hV => kind_keeps L4.out hq.out.1 hV
    have KA : Hid (∀ V, Keeps w4 V → Calls Tryz.prog 10 #[.iface 58 (.pointer (some ⟨bb, 0, none⟩))] V fun e w' => e = .returned (.int .i64 ra) ∧ Keeps w4 w') := fun V hV => at_keeps L4.out hq.out.1 hV
    clear hq C K3
    have bk : (rk != rk) = false := by simp
    have ba : (ra != ra) = false := by simp
    go_wp2_with fail
    refine (KK.out _ (Below.refl _ _)).mono ?_; rintro e w5 ⟨rfl, k5⟩
    have K5 := Lib.hid k5
    clear k5
    go_wp2_with fail
    refine (KA.out _ K5.out).mono ?_; rintro e w6 ⟨rfl, k6⟩
    have K4 : Hid (Keeps w w6) := Keeps.step K40.out k6
    clear k6 K5 KK KA L4 K40
    go_wp2_with fail
    refine (PN.out _ K4.out).mono ?_; rintro e w7 ⟨v1, rfl, h7⟩
    obtain ⟨a1, c1, rfl⟩ := h7.out.1.form
    have K7 : Hid (Keeps w w7) := Keeps.step K4.out h7.out.2
    clear K4
    go_wp2_with fail
    refine (RN.out _).mono ?_; rintro e w8 ⟨v2, rfl, h8⟩
    have SM := same_true w8 (h7.out.1.below h8.out.2) h8.out.1 NL.out
    obtain ⟨a2, c2, rfl⟩ := h8.out.1.form
    have K8 : Hid (Keeps w w8) := Keeps.step K7.out h8.out.2
    clear h7 h8 K7 PN RN
    go_wp2_with fail
    refine SM.mono ?_; rintro e w9 ⟨rfl, hb⟩
    have K9 : Hid (Keeps w w9) := Keeps.step K8.out hb
    clear hb SM K8
    go_wp2_with fail
    refine (PM.out _ K9.out).mono ?_; rintro e w10 ⟨rfl, hb⟩
    have K10 : Hid (Keeps w w10) := Keeps.step K9.out hb
    clear hb K9
    go_wp2_with fail
    refine (RM.out _ K10.out).mono ?_; rintro e w11 ⟨rfl, hb⟩
    have K11 : Hid (Keeps w w11) := Keeps.step K10.out hb
    clear hb K10
    go_wp2_with fail
    go_ret
    exact ⟨rfl, K11.out⟩
end Go.Proofs.YtoilalffhmjhdaaGreatDoor.substMatches
