/- quad.Numeric: whether a name's last label makes it an address. -/
import Derived.Test.YtahlkhaehlemcaaGreatDoorRqNumeric
set_option linter.unusedSimpArgs false
set_option linter.unusedVariables false
namespace Go.Proofs.YtahlkhaehlemcaaGreatDoor.rq
open Go.RowKit Go.Proofs.YtahlkhaehlemcaaGreatDoor.errs Go.Proofs.YtahlkhaehlemcaaGreatDoor.qmath Go.Proofs.YtahlkhaehlemcaaGreatDoor.qread Go.Proofs.YtahlkhaehlemcaaGreatDoor.qfields Go.Proofs.YtahlkhaehlemcaaGreatDoor.qparse

set_option maxRecDepth 100000 in
set_option maxHeartbeats 4000000 in
theorem numeric_any (s : ByteArray) (hs : s.size ≤ 1000) (w : World) :
    Calls Tryz.prog 10 #[.string s] w fun e w' => e = .returned (.bool (numericOf s)) ∧ Below w.heap.size w w' := by
  have U := fun w => unended_any s (by omega) w
  have hu := unended_size s
  obtain ⟨res, hres⟩ : ∃ res, Hid (numericOf s = res) := ⟨_, rfl⟩
  rw [hres.out]
  have hr := hres.out
  unfold numericOf lastOf at hr
  clear hres
  generalize unended s = t at *
  have hts : t.size ≤ 1000 := by omega
  have LI := fun w => Tryz.strings_LastIndex_one t ⟨#[46]⟩ rfl (by omega) w
  have e46 : (((⟨#[46]⟩ : ByteArray)[0]'(by decide)).toNat : Int) = 46 := rfl
  rw [e46] at LI
  have hla := lastIdx_from t t.size
  have hle := lastFrom_le t t.size
  have LI : ∀ w, Calls Tryz.prog 27 #[.string t, .string ⟨#[46]⟩] w fun e w' => e = .returned (.int .i64 (Lib.lastIdx t 46 t.size)) ∧ w' = w := LI
  generalize Lib.lastIdx t 46 t.size = li at *
  generalize lastFrom t t.size = la at *
  have y0 : 0 ≤ li + 1 := by omega
  have y1 : li + 1 ≤ (t.size : Int) := by omega
  have y2 : (li + 1).toNat = la := by omega
  obtain ⟨l, hl⟩ : ∃ l, Hid (t.extract la t.size = l) := ⟨_, rfl⟩
  have hls : l.size ≤ 1000 := by rw [← hl.out, ByteArray.size_extract]; omega
  rw [hl.out] at hr
  have BA := fun w => based_any l (by omega) w
  have y3 : ((t.size : Int)) ≤ 1000 := by omega
  clear hla hle e46 hu
  cases hx : hexed l with
  | true =>
    rw [hx] at hr
    have e1 : baseOf l = 16 := by unfold baseOf; rw [if_pos hx]
    have e2 : restOf l = l.extract 2 l.size := by unfold restOf; rw [if_pos hx]
    rw [e1, e2] at BA
    have BA : ∀ w, Calls Tryz.prog 28 #[.string l] w fun e w' => e = .returned (.tuple #[.string (l.extract 2 l.size), .int .i64 16]) ∧ w = w' := BA
    have A1 : ∀ w, Calls Tryz.prog 29 #[.string (l.extract 2 l.size), .string hexs] w fun e w' => e = .returned (.bool (allIn (l.extract 2 l.size) hexs)) ∧ Below w.heap.size w w' := fun w => all_any _ _ (by rw [ByteArray.size_extract]; omega) (by decide) w
    have D1 : ∀ w, Calls Tryz.prog 30 #[.int .i64 16] w fun e w' => e = .returned (.string hexs) ∧ w = w' := fun w => digitsOf_any (b := 16) (.inr (.inr rfl)) w
    obtain ⟨r2, hr2⟩ : ∃ r2, Hid (l.extract 2 l.size = r2) := ⟨_, rfl⟩
    rw [hr2.out] at BA A1 hr
    obtain ⟨q, hq⟩ : ∃ q, Hid (allIn r2 hexs = q) := ⟨_, rfl⟩
    rw [hq.out] at A1 hr
    have V : Aside (res = q) := hr.symm
    generalize hexs = hx2 at *
    clear hr hq hx e1 e2 hr2
    go_enter Tryz.func10, Tryz.ntmps10
    go_wp2_with fail
    refine (U _).mono ?_; rintro e w1 ⟨rfl, rfl⟩
    go_wp2_with fail
    refine (LI _).mono ?_; rintro e w1 ⟨rfl, rfl⟩
    go_wp2_with fail
    rw [hl.out]
    refine (BA _).mono ?_; rintro e w2 ⟨rfl, rfl⟩
    go_wp2_with fail
    refine (D1 _).mono ?_; rintro e w2 ⟨rfl, rfl⟩
    go_wp2_with fail
    refine (A1 _).mono ?_; rintro e w2 ⟨rfl, hb⟩
    go_wp2_with fail
    go_ret
    exact ⟨by rw [V.out]; rfl, hb⟩
  | false =>
    rw [hx] at hr
    have hb16 : Hid (baseOf l = 8 ∨ baseOf l = 10) := by
      unfold baseOf
      rw [hx]
      cases eight l
      · exact .inr rfl
      · exact .inl rfl
    have A1 : ∀ w, Calls Tryz.prog 29 #[.string l, .string decs] w fun e w' => e = .returned (.bool (allIn l decs)) ∧ Below w.heap.size w w' := fun w => all_any _ _ (by omega) (by decide) w
    have D1 : ∀ w, Calls Tryz.prog 30 #[.int .i64 10] w fun e w' => e = .returned (.string decs) ∧ w = w' := fun w => digitsOf_any (b := 10) (.inr (.inl rfl)) w
    obtain ⟨bi, hbi⟩ : ∃ bi, bi = (baseOf l : Int) := ⟨_, rfl⟩
    rw [← hbi] at BA
    have b16 : (bi == 16) = false := beq_eq_false_iff_ne.2 (by rcases hb16.out with h | h <;> omega)
    generalize restOf l = rl at *
    obtain ⟨q, hq⟩ : ∃ q, Hid (allIn l decs = q) := ⟨_, rfl⟩
    rw [hq.out] at A1 hr
    generalize decs = dx2 at *
    clear hq hx hbi hb16
    by_cases h0 : l.size = 0
    · have V : Aside (res = false) := by rw [decide_eq_false (by omega)] at hr; exact hr.symm
      obtain rfl := empty_of l h0
      clear hr h0
      go_enter Tryz.func10, Tryz.ntmps10
      go_wp2_with fail
      refine (U _).mono ?_; rintro e w1 ⟨rfl, rfl⟩
      go_wp2_with fail
      refine (LI _).mono ?_; rintro e w1 ⟨rfl, rfl⟩
      go_wp2_with fail
      rw [hl.out]
      refine (BA _).mono ?_; rintro e w2 ⟨rfl, rfl⟩
      go_wp2_with fail
      go_ret
      exact ⟨by rw [V.out]; rfl, Below.refl _ _⟩
    · have V : Aside (res = q) := by rw [decide_eq_true (by omega)] at hr; exact hr.symm
      have E0 := isEmpty_of l h0
      clear hr h0
      go_enter Tryz.func10, Tryz.ntmps10
      go_wp2_with fail
      refine (U _).mono ?_; rintro e w1 ⟨rfl, rfl⟩
      go_wp2_with fail
      refine (LI _).mono ?_; rintro e w1 ⟨rfl, rfl⟩
      go_wp2_with fail
      rw [hl.out]
      refine (BA _).mono ?_; rintro e w2 ⟨rfl, rfl⟩
      go_wp2_with fail
      refine (D1 _).mono ?_; rintro e w2 ⟨rfl, rfl⟩
      go_wp2_with fail
      refine (A1 _).mono ?_; rintro e w2 ⟨rfl, hb⟩
      go_wp2_with fail
      go_ret
      exact ⟨by rw [V.out]; rfl, hb⟩
end Go.Proofs.YtahlkhaehlemcaaGreatDoor.rq
