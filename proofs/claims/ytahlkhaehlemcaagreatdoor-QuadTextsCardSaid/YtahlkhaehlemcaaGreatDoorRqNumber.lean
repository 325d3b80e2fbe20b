/- The document's own answers for layer 11: a part's number, at most 256 to the power of 5. -/
import Derived.Test.YtahlkhaehlemcaaGreatDoorRqDigit
import Derived.Laws.Strings2
set_option linter.unusedSimpArgs false
set_option linter.unusedVariables false
namespace Go.Proofs.YtahlkhaehlemcaaGreatDoor.rq
open Go.RowKit Go.Proofs.YtahlkhaehlemcaaGreatDoor.errs Go.Proofs.YtahlkhaehlemcaaGreatDoor.qmath Go.Proofs.YtahlkhaehlemcaaGreatDoor.qread

/-- A number's digits, held down at 256 to the power of 5. -/
def rn (b : Nat) : Nat → List UInt8 → Nat
  | acc, [] => acc
  | acc, c :: r => rn b (min (acc * b + dval c) 1099511627776) r
theorem rn_le (b : Nat) : ∀ (l : List UInt8) (acc : Nat), acc ≤ 1099511627776 → rn b acc l ≤ 1099511627776
  | [], acc, h => h
  | c :: r, acc, h => rn_le b r _ (Nat.min_le_right _ _)
theorem isDig_hex {b : Nat} {c : UInt8} (hb : IsBase b) (h : isDig b c = true) : isDig 16 c = true := by
  obtain ⟨b2, b16⟩ : 2 ≤ b ∧ b ≤ 16 := by rcases hb with rfl | rfl | rfl <;> decide
  rcases dig_cases h with ⟨h0, h1, h2⟩ | ⟨rfl, _⟩
  · unfold isDig
    rw [decide_eq_true (show 48 ≤ c.toNat ∧ c.toNat ≤ 57 ∧ c.toNat < 48 + 16 by omega)]
    exact Bool.true_or _
  · exact h
theorem one_byte {s : ByteArray} {i : Nat} (h : i < s.size) : s.extract i (i + 1) = ⟨#[s.get! i]⟩ := by
  have hl : (s.extract i (i + 1)).data.toList = [s.get! i] := by
    rw [ByteArray.data_extract, Array.toList_extract]
    unfold List.extract
    rw [drop_at h, Nat.add_sub_cancel_left]
    rfl
  generalize s.extract i (i + 1) = e at hl
  obtain ⟨d⟩ := e
  have : d = [s.get! i].toArray := by rw [← hl]
  rw [this]

set_option maxRecDepth 100000 in
set_option maxHeartbeats 4000000 in
theorem rnumber8 (s : ByteArray) (hs : s.size ≤ 1000000) (hb : baseOf s = 8) (hk : skipOf s ≤ s.size) (hd : ∀ c ∈ s.data.toList.drop (skipOf s), isDig 8 c = true) (w : World) :
    Calls Tryz.prog 24 #[.string s] w fun e w' => e = .returned (.int .u64 (rn 8 0 (s.data.toList.drop (skipOf s)))) ∧ Below w.heap.size w w' := by
  have B := rbase_any s hs
  rw [hb] at B
  have B : ∀ w, Calls Tryz.prog 22 #[.string s] w fun e w' => e = .returned (.tuple #[.int .u64 8, .int .i64 (skipOf s)]) ∧ w = w' := B
  have P : ∀ w, Calls Tryz.prog 25 #[.int .i64 5] w fun e w' => e = .returned (.int .u64 1099511627776) ∧ w = w' := fun w => rpower_any 5 (by decide) w
  obtain ⟨k, hkk⟩ : ∃ k, k = skipOf s := ⟨_, rfl⟩
  rw [← hkk] at B hd hk ⊢
  have HD : Aside (∀ c ∈ s.data.toList.drop k, isDig 8 c = true) := hd
  obtain ⟨res, hres⟩ : ∃ res, Hid (rn 8 0 (s.data.toList.drop k) = res) := ⟨_, rfl⟩
  rw [hres.out]
  clear hd hkk hb
  go_enter Tryz.func24, Tryz.ntmps24
  go_wp2_with fail
  refine (B _).mono ?_; rintro e w1 ⟨rfl, rfl⟩
  go_wp2_with fail
  go_loopg [5, 6] (s.size - k) (fun g v0 v1 wr => ∃ (i acc : Nat) (a : Int), v0 = .int .u64 a ∧ v1 = .int .i64 i ∧ g + i = s.size ∧ k ≤ i ∧ Hid (a = (acc : Int) ∧ acc ≤ 1099511627776 ∧ rn 8 acc (s.data.toList.drop i) = res) ∧ Keeps w wr)
  case atStart => exact ⟨k, 0, 0, rfl, rfl, by omega, Nat.le_refl _, ⟨rfl, by decide, hres.out⟩, Keeps.refl _⟩
  case round =>
    clear hres
    obtain ⟨i, acc, a, rfl, rfl, hg, hki, hh, hkp⟩ := hrel
    have K : Aside (Keeps w wr) := hkp
    clear hkp
    by_cases hlt : i < s.size
    · obtain ⟨g, rfl⟩ : ∃ g, gk = g + 1 := ⟨gk - 1, by omega⟩
      have y0 : (i : Int) < (s.size : Int) := by omega
      have y1 : (0 : Int) ≤ (i : Int) := by omega
      have y2 : (i : Int) + 1 ≤ (s.size : Int) := by omega
      have y3 : (i : Int) ≤ (i : Int) + 1 := by omega
      have y4 : ((i : Int) + 1).toNat = i + 1 := by omega
      have hcd : isDig 8 (s.get! i) = true := HD.out _ (by
        have := drop_at hlt
        rw [show s.data.toList.drop i = (s.data.toList.drop k).drop (i - k) by rw [List.drop_drop]; congr 1; omega] at this
        exact List.mem_of_mem_drop (by rw [this]; exact List.mem_cons_self ..))
      have R := fun w => rone_any (s.get! i) (isDig_hex (by first | exact .inl rfl | exact .inr (.inl rfl) | exact .inr (.inr rfl)) hcd) w
      have hdv := dval_lt hcd
      rw [← one_byte hlt] at R
      obtain ⟨d, hde⟩ : ∃ d, Hid (dval (s.get! i) = d) := ⟨_, rfl⟩
      rw [hde.out] at hdv
      obtain ⟨di, hdi⟩ : ∃ di, Hid ((d : Int) = di) := ⟨_, rfl⟩
      rw [hde.out, hdi.out] at R
      have z0 : 0 ≤ di := by have := hdi.out; omega
      have z1 : di < 8 := by have := hdi.out; omega
      have z2 : 0 ≤ a := by have := hh.out.1; omega
      have z3 : a ≤ 1099511627776 := by have := hh.out; omega
      by_cases hbig : 1099511627776 < acc * 8 + d
      · have z4 : 1099511627776 < a * 8 + di := by have := hh.out.1; have := hdi.out; omega
        have N : Hid ((1099511627776 : Int) = ((1099511627776 : Nat) : Int) ∧ 1099511627776 ≤ 1099511627776 ∧ rn 8 1099511627776 (s.data.toList.drop (i + 1)) = res) := ⟨rfl, Nat.le_refl _, by
          have := hh.out.2.2
          rw [drop_at hlt] at this
          unfold rn at this
          rwa [hde.out, Nat.min_eq_right (by omega)] at this⟩
        clear hh hcd hde hdi hdv hbig
        go_wp2_with fail
        refine (R _).mono ?_; rintro e w2 ⟨rfl, hb2⟩
        have K2 : Aside (Keeps w w2) := K.out.step hb2
        clear K hb2
        go_wp2_with (go_at_call 25; refine (P _).mono ?_; rintro e w' ⟨rfl, rfl⟩)
        go_roundg g
        case measure => omega
        case rel => exact ⟨i + 1, 1099511627776, _, rfl, rfl, by omega, by omega, N, K2.out⟩
      · have z4 : ¬ 1099511627776 < a * 8 + di := by have := hh.out.1; have := hdi.out; omega
        have N : Hid (a * 8 + di = ((acc * 8 + d : Nat) : Int) ∧ acc * 8 + d ≤ 1099511627776 ∧ rn 8 (acc * 8 + d) (s.data.toList.drop (i + 1)) = res) := ⟨by have := hh.out.1; have := hdi.out; omega, by omega, by
          have := hh.out.2.2
          rw [drop_at hlt] at this
          unfold rn at this
          rwa [hde.out, Nat.min_eq_left (by omega)] at this⟩
        clear hh hcd hde hdi hdv hbig
        go_wp2_with fail
        refine (R _).mono ?_; rintro e w2 ⟨rfl, hb2⟩
        have K2 : Aside (Keeps w w2) := K.out.step hb2
        clear K hb2
        go_wp2_with (go_at_call 25; refine (P _).mono ?_; rintro e w' ⟨rfl, rfl⟩)
        go_roundg g
        case measure => omega
        case rel => exact ⟨i + 1, acc * 8 + d, _, rfl, rfl, by omega, by omega, N, K2.out⟩
    · have y0 : ¬ (i : Int) < (s.size : Int) := by omega
      have V : Aside (a = (res : Int)) := by
        have := hh.out
        rw [drop_end (by omega)] at this
        obtain ⟨h1, -, h3⟩ := this
        rw [h1, ← h3]
        rfl
      clear hh
      go_wp2_with fail
      go_ret
      rw [← V.out]
      exact ⟨rfl, K.out⟩

set_option maxRecDepth 100000 in
set_option maxHeartbeats 4000000 in
theorem rnumber10 (s : ByteArray) (hs : s.size ≤ 1000000) (hb : baseOf s = 10) (hk : skipOf s ≤ s.size) (hd : ∀ c ∈ s.data.toList.drop (skipOf s), isDig 10 c = true) (w : World) :
    Calls Tryz.prog 24 #[.string s] w fun e w' => e = .returned (.int .u64 (rn 10 0 (s.data.toList.drop (skipOf s)))) ∧ Below w.heap.size w w' := by
  have B := rbase_any s hs
  rw [hb] at B
  have B : ∀ w, Calls Tryz.prog 22 #[.string s] w fun e w' => e = .returned (.tuple #[.int .u64 10, .int .i64 (skipOf s)]) ∧ w = w' := B
  have P : ∀ w, Calls Tryz.prog 25 #[.int .i64 5] w fun e w' => e = .returned (.int .u64 1099511627776) ∧ w = w' := fun w => rpower_any 5 (by decide) w
  obtain ⟨k, hkk⟩ : ∃ k, k = skipOf s := ⟨_, rfl⟩
  rw [← hkk] at B hd hk ⊢
  have HD : Aside (∀ c ∈ s.data.toList.drop k, isDig 10 c = true) := hd
  obtain ⟨res, hres⟩ : ∃ res, Hid (rn 10 0 (s.data.toList.drop k) = res) := ⟨_, rfl⟩
  rw [hres.out]
  clear hd hkk hb
  go_enter Tryz.func24, Tryz.ntmps24
  go_wp2_with fail
  refine (B _).mono ?_; rintro e w1 ⟨rfl, rfl⟩
  go_wp2_with fail
  go_loopg [5, 6] (s.size - k) (fun g v0 v1 wr => ∃ (i acc : Nat) (a : Int), v0 = .int .u64 a ∧ v1 = .int .i64 i ∧ g + i = s.size ∧ k ≤ i ∧ Hid (a = (acc : Int) ∧ acc ≤ 1099511627776 ∧ rn 10 acc (s.data.toList.drop i) = res) ∧ Keeps w wr)
  case atStart => exact ⟨k, 0, 0, rfl, rfl, by omega, Nat.le_refl _, ⟨rfl, by decide, hres.out⟩, Keeps.refl _⟩
  case round =>
    clear hres
    obtain ⟨i, acc, a, rfl, rfl, hg, hki, hh, hkp⟩ := hrel
    have K : Aside (Keeps w wr) := hkp
    clear hkp
    by_cases hlt : i < s.size
    · obtain ⟨g, rfl⟩ : ∃ g, gk = g + 1 := ⟨gk - 1, by omega⟩
      have y0 : (i : Int) < (s.size : Int) := by omega
      have y1 : (0 : Int) ≤ (i : Int) := by omega
      have y2 : (i : Int) + 1 ≤ (s.size : Int) := by omega
      have y3 : (i : Int) ≤ (i : Int) + 1 := by omega
      have y4 : ((i : Int) + 1).toNat = i + 1 := by omega
      have hcd : isDig 10 (s.get! i) = true := HD.out _ (by
        have := drop_at hlt
        rw [show s.data.toList.drop i = (s.data.toList.drop k).drop (i - k) by rw [List.drop_drop]; congr 1; omega] at this
        exact List.mem_of_mem_drop (by rw [this]; exact List.mem_cons_self ..))
      have R := fun w => rone_any (s.get! i) (isDig_hex (by first | exact .inl rfl | exact .inr (.inl rfl) | exact .inr (.inr rfl)) hcd) w
      have hdv := dval_lt hcd
      rw [← one_byte hlt] at R
      obtain ⟨d, hde⟩ : ∃ d, Hid (dval (s.get! i) = d) := ⟨_, rfl⟩
      rw [hde.out] at hdv
      obtain ⟨di, hdi⟩ : ∃ di, Hid ((d : Int) = di) := ⟨_, rfl⟩
      rw [hde.out, hdi.out] at R
      have z0 : 0 ≤ di := by have := hdi.out; omega
      have z1 : di < 10 := by have := hdi.out; omega
      have z2 : 0 ≤ a := by have := hh.out.1; omega
      have z3 : a ≤ 1099511627776 := by have := hh.out; omega
      by_cases hbig : 1099511627776 < acc * 10 + d
      · have z4 : 1099511627776 < a * 10 + di := by have := hh.out.1; have := hdi.out; omega
        have N : Hid ((1099511627776 : Int) = ((1099511627776 : Nat) : Int) ∧ 1099511627776 ≤ 1099511627776 ∧ rn 10 1099511627776 (s.data.toList.drop (i + 1)) = res) := ⟨rfl, Nat.le_refl _, by
          have := hh.out.2.2
          rw [drop_at hlt] at this
          unfold rn at this
          rwa [hde.out, Nat.min_eq_right (by omega)] at this⟩
        clear hh hcd hde hdi hdv hbig
        go_wp2_with fail
        refine (R _).mono ?_; rintro e w2 ⟨rfl, hb2⟩
        have K2 : Aside (Keeps w w2) := K.out.step hb2
        clear K hb2
        go_wp2_with (go_at_call 25; refine (P _).mono ?_; rintro e w' ⟨rfl, rfl⟩)
        go_roundg g
        case measure => omega
        case rel => exact ⟨i + 1, 1099511627776, _, rfl, rfl, by omega, by omega, N, K2.out⟩
      · have z4 : ¬ 1099511627776 < a * 10 + di := by have := hh.out.1; have := hdi.out; omega
        have N : Hid (a * 10 + di = ((acc * 10 + d : Nat) : Int) ∧ acc * 10 + d ≤ 1099511627776 ∧ rn 10 (acc * 10 + d) (s.data.toList.drop (i + 1)) = res) := ⟨by have := hh.out.1; have := hdi.out; omega, by omega, by
          have := hh.out.2.2
          rw [drop_at hlt] at this
          unfold rn at this
          rwa [hde.out, Nat.min_eq_left (by omega)] at this⟩
        clear hh hcd hde hdi hdv hbig
        go_wp2_with fail
        refine (R _).mono ?_; rintro e w2 ⟨rfl, hb2⟩
        have K2 : Aside (Keeps w w2) := K.out.step hb2
        clear K hb2
        go_wp2_with (go_at_call 25; refine (P _).mono ?_; rintro e w' ⟨rfl, rfl⟩)
        go_roundg g
        case measure => omega
        case rel => exact ⟨i + 1, acc * 10 + d, _, rfl, rfl, by omega, by omega, N, K2.out⟩
    · have y0 : ¬ (i : Int) < (s.size : Int) := by omega
      have V : Aside (a = (res : Int)) := by
        have := hh.out
        rw [drop_end (by omega)] at this
        obtain ⟨h1, -, h3⟩ := this
        rw [h1, ← h3]
        rfl
      clear hh
      go_wp2_with fail
      go_ret
      rw [← V.out]
      exact ⟨rfl, K.out⟩

set_option maxRecDepth 100000 in
set_option maxHeartbeats 4000000 in
theorem rnumber16 (s : ByteArray) (hs : s.size ≤ 1000000) (hb : baseOf s = 16) (hk : skipOf s ≤ s.size) (hd : ∀ c ∈ s.data.toList.drop (skipOf s), isDig 16 c = true) (w : World) :
    Calls Tryz.prog 24 #[.string s] w fun e w' => e = .returned (.int .u64 (rn 16 0 (s.data.toList.drop (skipOf s)))) ∧ Below w.heap.size w w' := by
  have B := rbase_any s hs
  rw [hb] at B
  have B : ∀ w, Calls Tryz.prog 22 #[.string s] w fun e w' => e = .returned (.tuple #[.int .u64 16, .int .i64 (skipOf s)]) ∧ w = w' := B
  have P : ∀ w, Calls Tryz.prog 25 #[.int .i64 5] w fun e w' => e = .returned (.int .u64 1099511627776) ∧ w = w' := fun w => rpower_any 5 (by decide) w
  obtain ⟨k, hkk⟩ : ∃ k, k = skipOf s := ⟨_, rfl⟩
  rw [← hkk] at B hd hk ⊢
  have HD : Aside (∀ c ∈ s.data.toList.drop k, isDig 16 c = true) := hd
  obtain ⟨res, hres⟩ : ∃ res, Hid (rn 16 0 (s.data.toList.drop k) = res) := ⟨_, rfl⟩
  rw [hres.out]
  clear hd hkk hb
  go_enter Tryz.func24, Tryz.ntmps24
  go_wp2_with fail
  refine (B _).mono ?_; rintro e w1 ⟨rfl, rfl⟩
  go_wp2_with fail
  go_loopg [5, 6] (s.size - k) (fun g v0 v1 wr => ∃ (i acc : Nat) (a : Int), v0 = .int .u64 a ∧ v1 = .int .i64 i ∧ g + i = s.size ∧ k ≤ i ∧ Hid (a = (acc : Int) ∧ acc ≤ 1099511627776 ∧ rn 16 acc (s.data.toList.drop i) = res) ∧ Keeps w wr)
  case atStart => exact ⟨k, 0, 0, rfl, rfl, by omega, Nat.le_refl _, ⟨rfl, by decide, hres.out⟩, Keeps.refl _⟩
  case round =>
    clear hres
    obtain ⟨i, acc, a, rfl, rfl, hg, hki, hh, hkp⟩ := hrel
    have K : Aside (Keeps w wr) := hkp
    clear hkp
    by_cases hlt : i < s.size
    · obtain ⟨g, rfl⟩ : ∃ g, gk = g + 1 := ⟨gk - 1, by omega⟩
      have y0 : (i : Int) < (s.size : Int) := by omega
      have y1 : (0 : Int) ≤ (i : Int) := by omega
      have y2 : (i : Int) + 1 ≤ (s.size : Int) := by omega
      have y3 : (i : Int) ≤ (i : Int) + 1 := by omega
      have y4 : ((i : Int) + 1).toNat = i + 1 := by omega
      have hcd : isDig 16 (s.get! i) = true := HD.out _ (by
        have := drop_at hlt
        rw [show s.data.toList.drop i = (s.data.toList.drop k).drop (i - k) by rw [List.drop_drop]; congr 1; omega] at this
        exact List.mem_of_mem_drop (by rw [this]; exact List.mem_cons_self ..))
      have R := fun w => rone_any (s.get! i) (isDig_hex (by first | exact .inl rfl | exact .inr (.inl rfl) | exact .inr (.inr rfl)) hcd) w
      have hdv := dval_lt hcd
      rw [← one_byte hlt] at R
      obtain ⟨d, hde⟩ : ∃ d, Hid (dval (s.get! i) = d) := ⟨_, rfl⟩
      rw [hde.out] at hdv
      obtain ⟨di, hdi⟩ : ∃ di, Hid ((d : Int) = di) := ⟨_, rfl⟩
      rw [hde.out, hdi.out] at R
      have z0 : 0 ≤ di := by have := hdi.out; omega
      have z1 : di < 16 := by have := hdi.out; omega
      have z2 : 0 ≤ a := by have := hh.out.1; omega
      have z3 : a ≤ 1099511627776 := by have := hh.out; omega
      by_cases hbig : 1099511627776 < acc * 16 + d
      · have z4 : 1099511627776 < a * 16 + di := by have := hh.out.1; have := hdi.out; omega
        have N : Hid ((1099511627776 : Int) = ((1099511627776 : Nat) : Int) ∧ 1099511627776 ≤ 1099511627776 ∧ rn 16 1099511627776 (s.data.toList.drop (i + 1)) = res) := ⟨rfl, Nat.le_refl _, by
          have := hh.out.2.2
          rw [drop_at hlt] at this
          unfold rn at this
          rwa [hde.out, Nat.min_eq_right (by omega)] at this⟩
        clear hh hcd hde hdi hdv hbig
        go_wp2_with fail
        refine (R _).mono ?_; rintro e w2 ⟨rfl, hb2⟩
        have K2 : Aside (Keeps w w2) := K.out.step hb2
        clear K hb2
        go_wp2_with (go_at_call 25; refine (P _).mono ?_; rintro e w' ⟨rfl, rfl⟩)
        go_roundg g
        case measure => omega
        case rel => exact ⟨i + 1, 1099511627776, _, rfl, rfl, by omega, by omega, N, K2.out⟩
      · have z4 : ¬ 1099511627776 < a * 16 + di := by have := hh.out.1; have := hdi.out; omega
        have N : Hid (a * 16 + di = ((acc * 16 + d : Nat) : Int) ∧ acc * 16 + d ≤ 1099511627776 ∧ rn 16 (acc * 16 + d) (s.data.toList.drop (i + 1)) = res) := ⟨by have := hh.out.1; have := hdi.out; omega, by omega, by
          have := hh.out.2.2
          rw [drop_at hlt] at this
          unfold rn at this
          rwa [hde.out, Nat.min_eq_left (by omega)] at this⟩
        clear hh hcd hde hdi hdv hbig
        go_wp2_with fail
        refine (R _).mono ?_; rintro e w2 ⟨rfl, hb2⟩
        have K2 : Aside (Keeps w w2) := K.out.step hb2
        clear K hb2
        go_wp2_with (go_at_call 25; refine (P _).mono ?_; rintro e w' ⟨rfl, rfl⟩)
        go_roundg g
        case measure => omega
        case rel => exact ⟨i + 1, acc * 16 + d, _, rfl, rfl, by omega, by omega, N, K2.out⟩
    · have y0 : ¬ (i : Int) < (s.size : Int) := by omega
      have V : Aside (a = (res : Int)) := by
        have := hh.out
        rw [drop_end (by omega)] at this
        obtain ⟨h1, -, h3⟩ := this
        rw [h1, ← h3]
        rfl
      clear hh
      go_wp2_with fail
      go_ret
      rw [← V.out]
      exact ⟨rfl, K.out⟩

theorem rnumber_any (s : ByteArray) (hs : s.size ≤ 1000000) (hk : skipOf s ≤ s.size) (hd : ∀ c ∈ s.data.toList.drop (skipOf s), isDig (baseOf s) c = true) (w : World) :
    Calls Tryz.prog 24 #[.string s] w fun e w' => e = .returned (.int .u64 (rn (baseOf s) 0 (s.data.toList.drop (skipOf s)))) ∧ Below w.heap.size w w' := by
  rcases base_is s with h | h | h
  · rw [h] at hd ⊢; exact rnumber8 s hs h hk hd w
  · rw [h] at hd ⊢; exact rnumber10 s hs h hk hd w
  · rw [h] at hd ⊢; exact rnumber16 s hs h hk hd w
end Go.Proofs.YtahlkhaehlemcaaGreatDoor.rq
