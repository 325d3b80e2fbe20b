/- Whether a name's last label makes it an address: the program's, and the document's own. -/
import Derived.Test.YtahlkhaehlemcaaGreatDoorRqAll
import Derived.Deep.RegionHeld3
set_option linter.unusedSimpArgs false
set_option linter.unusedVariables false
namespace Go.Proofs.YtahlkhaehlemcaaGreatDoor.rq
open Go.RowKit Go.Proofs.YtahlkhaehlemcaaGreatDoor.errs Go.Proofs.YtahlkhaehlemcaaGreatDoor.qmath Go.Proofs.YtahlkhaehlemcaaGreatDoor.qread Go.Proofs.YtahlkhaehlemcaaGreatDoor.qfields Go.Proofs.YtahlkhaehlemcaaGreatDoor.qparse

/-- The place behind the last point ahead of a place. -/
def lastFrom (t : ByteArray) : Nat → Nat
  | 0 => 0
  | k + 1 => if t.get! k = 46 then k + 1 else lastFrom t k
theorem lastFrom_le (t : ByteArray) : ∀ k, lastFrom t k ≤ k
  | 0 => Nat.le_refl _
  | k + 1 => by unfold lastFrom; split; · exact Nat.le_refl _
                · exact Nat.le_trans (lastFrom_le t k) (Nat.le_succ _)
theorem lastIdx_from (t : ByteArray) : ∀ k, Lib.lastIdx t 46 k + 1 = (lastFrom t k : Int)
  | 0 => rfl
  | k + 1 => by
    unfold Lib.lastIdx lastFrom
    show (if ((t.get! k).toNat : Int) = 46 then (k : Int) else Lib.lastIdx t 46 k) + 1 = _
    by_cases e : t.get! k = 46
    · rw [if_pos e, if_pos (by rw [e]; rfl)]; rfl
    · rw [if_neg e, if_neg (fun q => e (UInt8.toNat_inj.1 (by show _ = 46; omega)))]
      exact lastIdx_from t k
def lastOf (s : ByteArray) : ByteArray := (unended s).extract (lastFrom (unended s) (unended s).size) (unended s).size
def decs : ByteArray := ⟨#[48, 49, 50, 51, 52, 53, 54, 55, 56, 57]⟩
def hexs : ByteArray := ⟨#[48, 49, 50, 51, 52, 53, 54, 55, 56, 57, 97, 98, 99, 100, 101, 102, 65, 66, 67, 68, 69, 70]⟩
def numericOf (s : ByteArray) : Bool := if hexed (lastOf s) then allIn ((lastOf s).extract 2 (lastOf s).size) hexs else decide (0 < (lastOf s).size) && allIn (lastOf s) decs

set_option maxRecDepth 100000 in
set_option maxHeartbeats 2000000 in
theorem rnumeric_any (s : ByteArray) (hs : s.size ≤ 1000) (w : World) :
    Calls Tryz.prog 11 #[.string s] w fun e w' => e = .returned (.bool (numericOf s)) ∧ w = w' := by
  have C := fun w => rcut_any s (by omega) w
  have hu := unended_size s
  unfold numericOf lastOf
  generalize unended s = t at *
  have hts : t.size ≤ 1000 := by omega
  obtain ⟨la, hla⟩ : ∃ la, Hid (lastFrom t t.size = la) := ⟨_, rfl⟩
  have hle : la ≤ t.size := by have := lastFrom_le t t.size; rw [hla.out] at this; exact this
  rw [hla.out]
  obtain ⟨res, hres⟩ : ∃ res, Hid ((if hexed (t.extract la t.size) = true then allIn ((t.extract la t.size).extract 2 (t.extract la t.size).size) hexs else decide (0 < (t.extract la t.size).size) && allIn (t.extract la t.size) decs) = res) := ⟨_, rfl⟩
  rw [hres.out]
  clear hu
  go_enter Tryz.func11, Tryz.ntmps11
  go_wp2_with fail
  refine (C _).mono ?_; rintro e w1 ⟨rfl, rfl⟩
  go_wp2_with fail
  go_loopg [4] t.size (fun g v wr => ∃ (k : Nat) (ki : Int), v = .int .i64 ki ∧ ki = k ∧ g = k ∧ k ≤ t.size ∧ Hid (lastFrom t k = la) ∧ w = wr)
  case atStart => exact ⟨t.size, _, rfl, rfl, rfl, Nat.le_refl _, hla, rfl⟩
  case round =>
    obtain ⟨k, ki, rfl, hki, hgk, hkt, hk, rfl⟩ := hrel
    subst hgk
    cases gk with
    | zero =>
      obtain rfl : ki = 0 := by omega
      obtain rfl : la = 0 := hk.out.symm
      have lz : (0 : Int) ≤ (t.size : Int) := by omega
      have e0 : t.extract 0 t.size = t := by apply list_ext; rw [extract_list2, List.drop_zero, Nat.sub_zero]; exact List.take_of_length_le (by rw [Array.length_toList]; exact Nat.le_refl _)
      have hr := hres.out
      rw [e0] at hr
      have RH := fun w => rhexed_any t (by omega) w
      have A1 := fun w => rall_any (t.extract 2 t.size) hexs (by rw [ByteArray.size_extract]; omega) (by decide) w
      have A2 := fun w => rall_any t decs (by omega) (by decide) w
      clear e0 hres hki hkt lz hk hle hla
      cases hx : hexed t with
      | true =>
        rw [hx] at RH hr
        have h2 : (2 : Int) ≤ (t.size : Int) := by have := hexed_size hx; omega
        obtain ⟨q, hq⟩ : ∃ q, Hid (allIn (t.extract 2 t.size) hexs = q) := ⟨_, rfl⟩
        rw [hq.out] at A1 hr
        have V : Aside (res = q) := hr.symm
        clear hx A2 hr hq
        go_wp2_with fail
        refine (RH _).mono ?_; rintro e w2 ⟨rfl, rfl⟩
        go_wp2_with fail
        refine (A1 _).mono ?_; rintro e w2 ⟨rfl, rfl⟩
        go_wp2_with fail
        go_ret
        exact ⟨by rw [V.out]; rfl, rfl⟩
      | false =>
        rw [hx] at RH hr
        obtain ⟨q, hq⟩ : ∃ q, Hid (allIn t decs = q) := ⟨_, rfl⟩
        rw [hq.out] at A2 hr
        clear hx A1 hq
        by_cases h0 : 0 < t.size
        · have y9 : (0 : Int) < (t.size : Int) := by omega
          have V : Aside (res = q) := by rw [decide_eq_true h0] at hr; exact hr.symm
          clear h0 hr
          go_wp2_with fail
          refine (RH _).mono ?_; rintro e w2 ⟨rfl, rfl⟩
          go_wp2_with fail
          refine (A2 _).mono ?_; rintro e w2 ⟨rfl, rfl⟩
          go_wp2_with fail
          go_ret
          exact ⟨by rw [V.out]; rfl, rfl⟩
        · have y9 : ¬ (0 : Int) < (t.size : Int) := by omega
          have V : Aside (res = false) := by rw [decide_eq_false h0] at hr; exact hr.symm
          clear h0 hr
          go_wp2_with fail
          refine (RH _).mono ?_; rintro e w2 ⟨rfl, rfl⟩
          go_wp2_with fail
          go_ret
          exact ⟨by rw [V.out]; rfl, rfl⟩
    | succ k =>
      have kl : k < t.size := by omega
      have be := byte_eq kl 46
      simp only [show ((46 : UInt8).toNat : Int) = 46 from rfl] at be
      have y0 : 0 < ki := by omega
      have y1 : 0 ≤ ki - 1 := by omega
      have y2 : ki - 1 < (t.size : Int) := by omega
      have y3 : (ki - 1).toNat = k := by omega
      by_cases e : t.get! k = 46
      · rw [decide_eq_true e] at be
        obtain rfl : la = k + 1 := by have := hk.out; unfold lastFrom at this; rw [if_pos e] at this; exact this.symm
        obtain ⟨l, hl⟩ : ∃ l, Hid (t.extract (k + 1) t.size = l) := ⟨_, rfl⟩
        have hls : l.size ≤ 1000 := by rw [← hl.out, ByteArray.size_extract]; omega
        have y5 : ki.toNat = k + 1 := by omega
        have y6 : 0 ≤ ki := by omega
        have y7 : ki ≤ (t.size : Int) := by omega
        have hr := hres.out
        rw [hl.out] at hr
        have RH := fun w => rhexed_any l (by omega) w
        have A1 := fun w => rall_any (l.extract 2 l.size) hexs (by rw [ByteArray.size_extract]; omega) (by decide) w
        have A2 := fun w => rall_any l decs (by omega) (by decide) w
        clear e hk hres
        cases hx : hexed l with
        | true =>
          rw [hx] at RH hr
          have h2 : (2 : Int) ≤ (l.size : Int) := by have := hexed_size hx; omega
          obtain ⟨q, hq⟩ : ∃ q, Hid (allIn (l.extract 2 l.size) hexs = q) := ⟨_, rfl⟩
          rw [hq.out] at A1 hr
          have V : Aside (res = q) := hr.symm
          clear hx A2 hr hq
          go_wp2_with fail
          rw [hl.out]
          refine (RH _).mono ?_; rintro e w2 ⟨rfl, rfl⟩
          go_wp2_with fail
          refine (A1 _).mono ?_; rintro e w2 ⟨rfl, rfl⟩
          go_wp2_with fail
          go_ret
          exact ⟨by rw [V.out]; rfl, rfl⟩
        | false =>
          rw [hx] at RH hr
          obtain ⟨q, hq⟩ : ∃ q, Hid (allIn l decs = q) := ⟨_, rfl⟩
          rw [hq.out] at A2 hr
          clear hx A1 hq
          by_cases h0 : 0 < l.size
          · have y9 : (0 : Int) < (l.size : Int) := by omega
            have V : Aside (res = q) := by rw [decide_eq_true h0] at hr; exact hr.symm
            clear h0 hr
            go_wp2_with fail
            rw [hl.out]
            refine (RH _).mono ?_; rintro e w2 ⟨rfl, rfl⟩
            go_wp2_with fail
            refine (A2 _).mono ?_; rintro e w2 ⟨rfl, rfl⟩
            go_wp2_with fail
            go_ret
            exact ⟨by rw [V.out]; rfl, rfl⟩
          · have y9 : ¬ (0 : Int) < (l.size : Int) := by omega
            have V : Aside (res = false) := by rw [decide_eq_false h0] at hr; exact hr.symm
            clear h0 hr
            go_wp2_with fail
            rw [hl.out]
            refine (RH _).mono ?_; rintro e w2 ⟨rfl, rfl⟩
            go_wp2_with fail
            go_ret
            exact ⟨by rw [V.out]; rfl, rfl⟩
      · rw [decide_eq_false e] at be
        have N : Hid (lastFrom t k = la) := by have := hk.out; unfold lastFrom at this; rwa [if_neg e] at this
        clear e hk
        go_wp2_with fail
        go_roundg k
        case measure => omega
        case rel => exact ⟨k, _, rfl, by omega, rfl, by omega, N, rfl⟩
end Go.Proofs.YtahlkhaehlemcaaGreatDoor.rq
