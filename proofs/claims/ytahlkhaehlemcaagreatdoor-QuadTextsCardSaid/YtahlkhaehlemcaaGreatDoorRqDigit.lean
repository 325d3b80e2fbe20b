/- The document's own answers for layer 11: a digit's value, a part's number. -/
import Derived.Test.YtahlkhaehlemcaaGreatDoorRqSmall
import Derived.Deep.RegionHeld3
set_option linter.unusedSimpArgs false
set_option linter.unusedVariables false
namespace Go.Proofs.YtahlkhaehlemcaaGreatDoor.rq
open Go.RowKit Go.Proofs.YtahlkhaehlemcaaGreatDoor.errs Go.Proofs.YtahlkhaehlemcaaGreatDoor.qmath Go.Proofs.YtahlkhaehlemcaaGreatDoor.qread

def smallI (c : UInt8) : Int := if 65 ≤ c.toNat ∧ c.toNat ≤ 90 then (c.toNat : Int) + 32 else c.toNat
theorem small_any (c : UInt8) (w : World) : Calls Tryz.prog 83 #[.int .u8 c.toNat] w fun e w' => e = .returned (.int .u8 (smallI c)) ∧ w = w' := by
  have h256 := c.toNat_lt
  unfold smallI
  obtain ⟨ci, hci⟩ : ∃ ci, ci = (c.toNat : Int) := ⟨_, rfl⟩
  rw [← hci]
  have h0 : 0 ≤ ci := by omega
  have h1 : ci < 256 := by omega
  by_cases h : 65 ≤ c.toNat ∧ c.toNat ≤ 90
  · have y0 : 65 ≤ ci := by omega
    have y1 : ci ≤ 90 := by omega
    rw [if_pos h]
    clear h hci h256
    go_enter Tryz.func83, Tryz.ntmps83
    go_wp2_with fail
    go_ret
    exact ⟨rfl, rfl⟩
  · rw [if_neg h]
    by_cases h2 : 65 ≤ c.toNat
    · have y0 : 65 ≤ ci := by omega
      have y1 : ¬ ci ≤ 90 := by omega
      clear h hci h256 h2
      go_enter Tryz.func83, Tryz.ntmps83
      go_wp2_with fail
      go_ret
      exact ⟨rfl, rfl⟩
    · have y0 : ¬ 65 ≤ ci := by omega
      clear h hci h256 h2
      go_enter Tryz.func83, Tryz.ntmps83
      go_wp2_with fail
      go_ret
      exact ⟨rfl, rfl⟩

def lowers : List UInt8 := [48, 49, 50, 51, 52, 53, 54, 55, 56, 57, 97, 98, 99, 100, 101, 102]
def lo (i : Nat) : Int := (lowers.getD i 0).toNat
theorem lo_get (i : Nat) (h : i < (⟨#[48, 49, 50, 51, 52, 53, 54, 55, 56, 57, 97, 98, 99, 100, 101, 102]⟩ : ByteArray).size) : (((⟨#[48, 49, 50, 51, 52, 53, 54, 55, 56, 57, 97, 98, 99, 100, 101, 102]⟩ : ByteArray)[i]'h).toNat : Int) = lo i := by
  have h' : i < 16 := h
  rcases (show i = 0 ∨ i = 1 ∨ i = 2 ∨ i = 3 ∨ i = 4 ∨ i = 5 ∨ i = 6 ∨ i = 7 ∨ i = 8 ∨ i = 9 ∨ i = 10 ∨ i = 11 ∨ i = 12 ∨ i = 13 ∨ i = 14 ∨ i = 15 by omega) with rfl | rfl | rfl | rfl | rfl | rfl | rfl | rfl | rfl | rfl | rfl | rfl | rfl | rfl | rfl | rfl
  all_goals rfl
set_option maxRecDepth 100000 in
theorem lo_small (c : UInt8) : isDig 16 c = true → lo (dval c) = smallI c ∧ dval c < 16 ∧ ∀ j : Fin 16, j.1 < dval c → lo j.1 ≠ smallI c := by
  refine all_bytes (p := fun c => isDig 16 c = true → lo (dval c) = smallI c ∧ dval c < 16 ∧ ∀ j : Fin 16, j.1 < dval c → lo j.1 ≠ smallI c) ?_ c
  decide

set_option maxHeartbeats 1000000 in
theorem rdigit_any (c : UInt8) (hc : isDig 16 c = true) (w : World) : Calls Tryz.prog 65 #[.int .u8 c.toNat] w fun e w' => e = .returned (.int .u64 (dval c)) ∧ Below w.heap.size w w' := by
  obtain ⟨h1, h2, h3⟩ := lo_small c hc
  have S := small_any c
  obtain ⟨ci, hci⟩ : ∃ ci, ci = (c.toNat : Int) := ⟨_, rfl⟩
  rw [← hci] at S ⊢
  obtain ⟨sm, hsm⟩ : ∃ sm, sm = smallI c := ⟨_, rfl⟩
  rw [← hsm] at S h1
  have h3 : Aside (∀ j : Nat, j < dval c → lo j ≠ sm) := fun j hj => by rw [hsm]; exact h3 ⟨j, by omega⟩ hj
  obtain ⟨d, hd⟩ : ∃ d, d = dval c := ⟨_, rfl⟩
  rw [← hd] at h1 h2 h3 ⊢
  clear hci hsm hd hc
  go_enter Tryz.func65, Tryz.ntmps65
  go_wp2_with fail
  go_loopg [4] 16 (fun g v wr => ∃ (i : Nat) (ii : Int), v = .int .i64 ii ∧ ii = i ∧ g + i = 16 ∧ i ≤ d ∧ Keeps w wr)
  case atStart => exact ⟨0, 0, rfl, rfl, rfl, by omega, Keeps.refl _⟩
  case round =>
    obtain ⟨i, ii, rfl, hii, hg, hid, hk⟩ := hrel
    have hi16 : i < (⟨#[48, 49, 50, 51, 52, 53, 54, 55, 56, 57, 97, 98, 99, 100, 101, 102]⟩ : ByteArray).size := show i < 16 by omega
    have ix := lo_get i hi16
    have y0 : ii < 16 := by omega
    have y1 : 0 ≤ ii := by omega
    obtain ⟨g, rfl⟩ : ∃ g, gk = g + 1 := ⟨gk - 1, by omega⟩
    have K : Aside (Keeps w wr) := hk
    clear hk
    by_cases e : i = d
    · have be : ((((⟨#[48, 49, 50, 51, 52, 53, 54, 55, 56, 57, 97, 98, 99, 100, 101, 102]⟩ : ByteArray)[i]'hi16).toNat : Int) == sm) = true := beq_iff_eq.2 (by rw [ix, e]; exact h1)
      have hd : Aside (ii = (d : Int)) := by show _ = _; omega
      clear ix e
      go_wp2_with fail
      go_region_held3 (fun _ => True) (trivial) ((go_at_call 83; refine (S _).mono ?_; rintro e w1 ⟨rfl, rfl⟩))
      all_goals
        go_wp2_with fail
        go_ret
        exact ⟨by rw [show d = i by have := hd.out; omega]; rfl, K.out.trans (Below.drew (Below.refl _ _))⟩
    · have be : ((((⟨#[48, 49, 50, 51, 52, 53, 54, 55, 56, 57, 97, 98, 99, 100, 101, 102]⟩ : ByteArray)[i]'hi16).toNat : Int) == sm) = false := beq_eq_false_iff_ne.2 (by rw [ix]; exact h3.out i (by omega))
      have e := Lib.hid e
      clear ix
      go_wp2_with fail
      go_region_held3 (fun _ => True) (trivial) ((go_at_call 83; refine (S _).mono ?_; rintro e w1 ⟨rfl, rfl⟩))
      all_goals
        go_wp2_with fail
        go_roundg g
        case measure => omega
        case rel => exact ⟨i + 1, _, rfl, by omega, by omega, by have := e.out; omega, K.out.trans (Below.drew (Below.refl _ _))⟩

/-- One digit, as a number. -/
theorem rone_any (c : UInt8) (hc : isDig 16 c = true) (w : World) : Calls Tryz.prog 43 #[.string ⟨#[c]⟩, .int .u64 16, .int .u64 15] w fun e w' => e = .returned (.tuple #[.int .u64 (dval c), .int .i64 0, .int .i64 0]) ∧ Below w.heap.size w w' := by
  have D := fun w => rdigit_any c hc w
  have h16 := (lo_small c hc).2.1
  obtain ⟨d, hd⟩ : ∃ d, d = dval c := ⟨_, rfl⟩
  rw [← hd] at D h16 ⊢
  obtain ⟨di, hdi⟩ : ∃ di, di = (d : Int) := ⟨_, rfl⟩
  rw [← hdi] at D ⊢
  have y0 : 0 ≤ di := by omega
  have y1 : di < 16 := by omega
  obtain ⟨ci, hci⟩ : ∃ ci, ci = (c.toNat : Int) := ⟨_, rfl⟩
  rw [← hci] at D
  have g0 : (((⟨#[c]⟩ : ByteArray)[0]'(Nat.one_pos)).toNat : Int) = ci := by rw [hci]; rfl
  clear hd hdi h16 hc hci
  go_enter Tryz.func43, Tryz.ntmps43
  go_wp2_with fail
  go_loopg [9, 10, 11] 1 (fun g v0 v1 v2 wr => ∃ (i n : Int), v0 = .int .u64 n ∧ v1 = .bool false ∧ v2 = .int .i64 i ∧ (g = 1 ∧ i = 0 ∧ n = 0 ∨ g = 0 ∧ i = 1 ∧ n = di) ∧ Keeps w wr)
  case atStart => exact ⟨0, 0, rfl, rfl, rfl, .inl ⟨rfl, rfl, rfl⟩, Keeps.refl _⟩
  case round =>
    obtain ⟨i, n, rfl, rfl, rfl, hc, hk⟩ := hrel
    rcases hc with ⟨rfl, rfl, rfl⟩ | ⟨rfl, rfl, rfl⟩
    · have K : Aside (Keeps w wr) := hk
      clear hk
      go_wp2_with fail
      refine (D _).mono ?_; rintro e w1 ⟨rfl, hb1⟩
      have K1 : Aside (Keeps w w1) := K.out.step hb1
      have y2 : ¬ (18446744073709551615 - di) / 16 < 0 := by omega
      clear hb1 K
      go_wp2_with fail
      go_roundg 0
      case measure => omega
      case rel => exact ⟨1, di, rfl, rfl, rfl, .inr ⟨rfl, rfl, rfl⟩, K1.out⟩
    · go_wp2_with fail
      go_ret3
      exact ⟨rfl, hk⟩
end Go.Proofs.YtahlkhaehlemcaaGreatDoor.rq
