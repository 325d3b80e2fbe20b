/- The document's own answers of layer 17, in small: tokens, blanks. -/
import Derived.Test.YtelofhplpeeplaaDoorMdMath
import Derived.Test.YtelofhplpeeplaaDoorGlRef
set_option linter.unusedSimpArgs false
set_option linter.unusedVariables false
namespace Go.Proofs.YtelofhplpeeplaaDoor.media
open Go.RowKit Go.Proofs.YtelofhplpeeplaaDoor.errs Go.Proofs.YtelofhplpeeplaaDoor.gmath Go.Proofs.YtelofhplpeeplaaDoor.glref

theorem byte_at (p : ByteArray) (k : Nat) (h : k < p.size) : ∀ w, (Instr.index 9 (.string p) (.int .i64 k)).run Tryd.prog w = .ok (.int .u8 (p.get! k).toNat) w := fun w => by
  rw [run_index_string (h := Tryd.underlying9), dif_pos (by omega)]
  have hd : k < p.data.size := h
  show Result.ok (Value.int .u8 ((p.data[(k : Int).toNat]'hd).toNat : Int)) w = Result.ok (Value.int .u8 ((p.data[k]!).toNat : Int)) w
  rw [getElem!_pos p.data k hd]
  rfl
theorem eq_byte (a c : UInt8) : ((a.toNat : Int) == (c.toNat : Int)) = decide (a = c) := by
  by_cases e : a = c
  · rw [decide_eq_true e, e]; exact beq_iff_eq.2 rfl
  · rw [decide_eq_false e]
    exact beq_eq_false_iff_ne.2 fun q => e (UInt8.toNat_inj.1 (by omega))

set_option maxRecDepth 100000 in
set_option maxHeartbeats 4000000 in
/-- Does a byte stand in a text? -/
theorem rhas_any (s : ByteArray) (c : UInt8) (hs : s.size ≤ 1000000) (w : World) :
    Calls Tryd.prog 77 #[.string s, .int .u8 c.toNat] w fun e w' => e = .returned (.bool (s.data.toList.contains c)) ∧ w = w' := by
  obtain ⟨res, hres⟩ : ∃ res, Hid (s.data.toList.contains c = res) := ⟨_, rfl⟩
  rw [hres.out]
  obtain ⟨ci, hci⟩ : ∃ ci, Hid ((c.toNat : Int) = ci) := ⟨_, rfl⟩
  rw [hci.out]
  go_enter Tryd.func77, Tryd.ntmps77
  go_wp2_with fail
  go_loopg [5] s.size (fun g v wr => ∃ i : Nat, v = .int .i64 i ∧ g + i = s.size ∧ Hid ((s.data.toList.drop i).contains c = res) ∧ w = wr)
  case atStart => exact ⟨0, rfl, by omega, hres, rfl⟩
  case round =>
    clear hres
    obtain ⟨i, rfl, hg, hd, rfl⟩ := hrel
    by_cases hlt : i < s.size
    · obtain ⟨g, rfl⟩ : ∃ g, gk = g + 1 := ⟨gk - 1, by omega⟩
      have y0 : (i : Int) < (s.size : Int) := by omega
      have y1 : (0 : Int) ≤ (i : Int) := by omega
      have ix := byte_at s i hlt
      have be := eq_byte (s.get! i) c
      rw [hci.out] at be
      have hd := hd.out
      rw [bytes_drop hlt] at hd
      by_cases e : s.get! i = c
      · rw [decide_eq_true e] at be
        have V : Aside (res = true) := by rw [← hd, e]; exact (List.contains_cons ..).trans (by rw [beq_self_eq_true, Bool.true_or])
        clear hd e
        generalize s.get! i = d at *
        go_wp2_with fail
        go_ret
        rw [V.out]
        exact ⟨rfl, rfl⟩
      · rw [decide_eq_false e] at be
        have V : Hid ((s.data.toList.drop (i + 1)).contains c = res) := by
          rw [List.contains_cons, show (c == s.get! i) = false from beq_eq_false_iff_ne.2 (fun q => e q.symm), Bool.false_or] at hd
          exact hd
        clear hd e
        generalize s.get! i = d at *
        go_wp2_with fail
        go_roundg g
        case measure => omega
        case rel => exact ⟨i + 1, rfl, by omega, V, rfl⟩
    · have y0 : ¬ (i : Int) < (s.size : Int) := by omega
      have V : Aside (res = false) := by
        have hd := hd.out
        rw [bytes_end (by omega)] at hd
        exact hd.symm
      clear hd
      go_wp2_with fail
      go_ret
      rw [V.out]
      exact ⟨rfl, rfl⟩

set_option maxRecDepth 100000 in
set_option maxHeartbeats 4000000 in
theorem rwithin_any (c : UInt8) (w : World) :
    Calls Tryd.prog 67 #[.int .u8 c.toNat] w fun e w' => e = .returned (.bool (inTok c)) ∧ w = w' := by
  have hc := c.toNat_lt
  have C := rsmall_any c.toNat (by omega) (by omega)
  have H := fun w => rhas_any ⟨#[33, 35, 36, 37, 38, 39, 42, 43, 45, 46, 94, 95, 124, 126]⟩ c (by decide) w
  obtain ⟨q, hq⟩ : ∃ q, signs.contains c = q := ⟨_, rfl⟩
  have H : ∀ w, Calls Tryd.prog 77 #[.string ⟨#[33, 35, 36, 37, 38, 39, 42, 43, 45, 46, 94, 95, 124, 126]⟩, .int .u8 c.toNat] w fun e w' => e = .returned (.bool q) ∧ w = w' := by
    rw [← hq]; exact H
  unfold inTok
  rw [hq]
  have HN : Hid (∀ n : Nat, n = c.toNat → ((n : Int) = c.toNat)) := fun n h => by rw [h]
  generalize small c.toNat = x at *
  generalize c.toNat = n at *
  by_cases hx : 97 ≤ x ∧ x ≤ 122
  · obtain ⟨a1, a2⟩ := hx
    rw [decide_eq_true ⟨a1, a2⟩]
    clear hq H
    go_enter Tryd.func67, Tryd.ntmps67
    go_wp2_with fail
    refine (C _).mono ?_; rintro e w1 ⟨rfl, rfl⟩
    go_wp2_with fail
    go_ret
    exact ⟨rfl, rfl⟩
  · have HX : (97 ≤ x ∧ ¬ x ≤ 122) ∨ ¬ 97 ≤ x := by omega
    rw [decide_eq_false hx, Bool.false_or]
    clear hx
    by_cases hn : 48 ≤ n ∧ n ≤ 57
    · have b1 : (48 : Int) ≤ (n : Int) := by omega
      have b2 : (n : Int) ≤ 57 := by omega
      rw [decide_eq_true hn]
      clear hq H hn
      rcases HX with ⟨a1, a2⟩ | a1
      all_goals
        go_enter Tryd.func67, Tryd.ntmps67
        go_wp2_with fail
        refine (C _).mono ?_; rintro e w1 ⟨rfl, rfl⟩
        go_wp2_with fail
        go_ret
        exact ⟨rfl, rfl⟩
    · have HB : ((48 : Int) ≤ (n : Int) ∧ ¬ (n : Int) ≤ 57) ∨ ¬ (48 : Int) ≤ (n : Int) := by omega
      rw [decide_eq_false hn, Bool.false_or]
      clear hn
      by_cases h6 : n = 96
      · subst h6
        clear hq H HB
        rcases HX with ⟨a1, a2⟩ | a1
        all_goals
          go_enter Tryd.func67, Tryd.ntmps67
          go_wp2_with fail
          refine (C _).mono ?_; rintro e w1 ⟨rfl, rfl⟩
          go_wp2_with fail
          go_ret
          exact ⟨rfl, rfl⟩
      · have b3 : ((n : Int) == 96) = false := beq_eq_false_iff_ne.2 (by omega)
        rw [decide_eq_false h6, Bool.false_or]
        clear h6 hq
        rcases HX with ⟨a1, a2⟩ | a1 <;> rcases HB with ⟨b1, b2⟩ | b1
        all_goals
          go_enter Tryd.func67, Tryd.ntmps67
          go_wp2_with fail
          refine (C _).mono ?_; rintro e w1 ⟨rfl, rfl⟩
          go_wp2_with fail
          refine (H _).mono ?_; rintro e w2 ⟨rfl, rfl⟩
          go_wp2_with fail
          go_ret
          first
          | exact ⟨rfl, rfl⟩
          | (refine ⟨?_, rfl⟩; simp; intro h; omega)

set_option maxRecDepth 100000 in
set_option maxHeartbeats 4000000 in
theorem rtoken_any (s : ByteArray) (hs : s.size ≤ 1000000) (w : World) :
    Calls Tryd.prog 68 #[.string s] w fun e w' => e = .returned (.bool (isTok s)) ∧ w = w' := by
  obtain ⟨res, hres⟩ : ∃ res, Hid (isTok s = res) := ⟨_, rfl⟩
  rw [hres.out]
  have H := rwithin_any
  go_enter Tryd.func68, Tryd.ntmps68
  go_wp2_with fail
  go_loopg [3] s.size (fun g v wr => ∃ i : Nat, v = .int .i64 i ∧ g + i = s.size ∧ Hid (((s.data.toList.drop i).all inTok && (decide (1 ≤ s.size) && decide (s.size ≤ 100))) = res) ∧ w = wr)
  case atStart => exact ⟨0, rfl, by omega, hres, rfl⟩
  case round =>
    clear hres
    obtain ⟨i, rfl, hg, hd, rfl⟩ := hrel
    by_cases hlt : i < s.size
    · obtain ⟨g, rfl⟩ : ∃ g, gk = g + 1 := ⟨gk - 1, by omega⟩
      have y0 : (i : Int) < (s.size : Int) := by omega
      have y1 : (0 : Int) ≤ (i : Int) := by omega
      have ix := byte_at s i hlt
      have hd := hd.out
      rw [bytes_drop hlt, List.all_cons] at hd
      have C := H (s.get! i) w
      clear H
      generalize s.get! i = d at *
      obtain ⟨q, hq⟩ : ∃ q, q = inTok d := ⟨_, rfl⟩
      rw [← hq] at C hd
      clear hq
      cases q with
      | false =>
        have V : Aside (res = false) := by rw [← hd]; rfl
        clear hd
        go_wp2_with fail
        refine C.mono ?_; rintro e w1 ⟨rfl, rfl⟩
        go_wp2_with fail
        go_ret
        rw [V.out]
        exact ⟨rfl, rfl⟩
      | true =>
        have V : Hid (((s.data.toList.drop (i + 1)).all inTok && (decide (1 ≤ s.size) && decide (s.size ≤ 100))) = res) := by rwa [Bool.true_and] at hd
        clear hd
        go_wp2_with fail
        refine C.mono ?_; rintro e w1 ⟨rfl, rfl⟩
        go_wp2_with fail
        go_roundg g
        case measure => omega
        case rel => exact ⟨i + 1, rfl, by omega, V, rfl⟩
    · have y0 : ¬ (i : Int) < (s.size : Int) := by omega
      have hd := hd.out
      rw [bytes_end (by omega), List.all_nil, Bool.true_and] at hd
      clear H
      by_cases h1 : 1 ≤ s.size
      · have y1 : (1 : Int) ≤ (s.size : Int) := by omega
        rw [decide_eq_true h1, Bool.true_and] at hd
        by_cases h2 : s.size ≤ 100
        · have y2 : (s.size : Int) ≤ 100 := by omega
          have V : Aside (res = true) := by rw [← hd, decide_eq_true h2]; rfl
          clear hd h1 h2
          go_wp2_with fail
          go_ret
          rw [V.out]
          exact ⟨rfl, rfl⟩
        · have y2 : ¬ (s.size : Int) ≤ 100 := by omega
          have V : Aside (res = false) := by rw [← hd, decide_eq_false h2]; rfl
          clear hd h1 h2
          go_wp2_with fail
          go_ret
          rw [V.out]
          exact ⟨rfl, rfl⟩
      · have y1 : ¬ (1 : Int) ≤ (s.size : Int) := by omega
        have V : Aside (res = false) := by rw [← hd, decide_eq_false h1]; rfl
        clear hd h1
        go_wp2_with fail
        go_ret
        rw [V.out]
        exact ⟨rfl, rfl⟩

set_option maxRecDepth 100000 in
set_option maxHeartbeats 1000000 in
/-- The place behind the blanks at a place. -/
theorem rblank_any (s : ByteArray) (i : Nat) (hs : s.size ≤ 1000000) (hi : i ≤ s.size) (w : World) :
    Calls Tryd.prog 56 #[.string s, .int .i64 i] w fun e w' => e = .returned (.int .i64 ((i + spanN isBl (s.data.toList.drop i) : Nat) : Int)) ∧ w = w' := by
  have hle := span_in s isBl i hi
  obtain ⟨n, hn⟩ : ∃ n, Hid (spanN isBl (s.data.toList.drop i) = n) := ⟨_, rfl⟩
  rw [hn.out] at hle ⊢
  go_enter Tryd.func56, Tryd.ntmps56
  go_wp2_with fail
  go_loopg [1] n (fun g v wr => ∃ k : Nat, v = .int .i64 k ∧ k + g = i + n ∧ Hid (spanN isBl (s.data.toList.drop k) = g) ∧ w = wr)
  case atStart => exact ⟨i, rfl, rfl, hn, rfl⟩
  case round =>
    clear hn
    obtain ⟨k, rfl, hg, hd, rfl⟩ := hrel
    have y1 : (0 : Int) ≤ (k : Int) := by omega
    by_cases hlt : k < s.size
    · have y0 : (k : Int) < (s.size : Int) := by omega
      have ix := byte_at s k hlt
      have hd := hd.out
      rw [bytes_drop hlt] at hd
      have b1 := eq_byte (s.get! k) 32
      have b2 := eq_byte (s.get! k) 9
      simp only [show ((32 : UInt8).toNat : Int) = 32 from rfl, show ((9 : UInt8).toNat : Int) = 9 from rfl] at b1 b2
      have hb : isBl (s.get! k) = (decide (s.get! k = 32) || decide (s.get! k = 9)) := by
        unfold isBl
        generalize s.get! k = d
        by_cases e1 : d = 32 <;> by_cases e2 : d = 9 <;> simp [e1, e2]
      generalize s.get! k = d at *
      by_cases e1 : d = 32
      · rw [decide_eq_true e1] at b1 hb
        rw [spanN_yes (by rw [hb]; rfl)] at hd
        have V : Hid (spanN isBl (s.data.toList.drop (k + 1)) = gk - 1) := by show _ = _; omega
        have hg2 : Hid (gk = gk - 1 + 1) := by show _ = _; omega
        clear hd b2 hb e1
        go_wp2_with fail
        go_roundg (gk - 1)
        case measure => have := hg2.out; omega
        case rel => exact ⟨k + 1, by go_num, by have := hg2.out; omega, V, rfl⟩
      · rw [decide_eq_false e1] at b1 hb
        by_cases e2 : d = 9
        · rw [decide_eq_true e2] at b2 hb
          rw [spanN_yes (by rw [hb]; rfl)] at hd
          have V : Hid (spanN isBl (s.data.toList.drop (k + 1)) = gk - 1) := by show _ = _; omega
          have hg2 : Hid (gk = gk - 1 + 1) := by show _ = _; omega
          clear hd hb e1 e2
          go_wp2_with fail
          go_roundg (gk - 1)
          case measure => have := hg2.out; omega
          case rel => exact ⟨k + 1, by go_num, by have := hg2.out; omega, V, rfl⟩
        · rw [decide_eq_false e2] at b2 hb
          rw [spanN_no (by rw [hb]; rfl)] at hd
          have hk : Hid (k = i + n) := by show k = _; omega
          clear hd hb e1 e2
          go_wp2_with fail
          go_ret
          exact ⟨by rw [hk.out]; first | rfl | (push_cast; rfl), rfl⟩
    · have y0 : ¬ (k : Int) < (s.size : Int) := by omega
      have hd := hd.out
      rw [bytes_end (by omega), spanN_nil] at hd
      have hk : Hid (k = i + n) := by show k = _; omega
      clear hd
      go_wp2_with fail
      go_ret
      exact ⟨by rw [hk.out]; first | rfl | (push_cast; rfl), rfl⟩

set_option maxRecDepth 100000 in
set_option maxHeartbeats 1000000 in
/-- The place behind the token at a place. -/
theorem rtok_any (s : ByteArray) (i : Nat) (hs : s.size ≤ 1000000) (hi : i ≤ s.size) (w : World) :
    Calls Tryd.prog 57 #[.string s, .int .i64 i] w fun e w' => e = .returned (.int .i64 (tokAt s i)) ∧ w = w' := by
  have hle := span_in s inTok i hi
  have TC := tok_cut s i hi
  have hH := rwithin_any
  obtain ⟨n, hn⟩ : ∃ n, Hid (spanN inTok (s.data.toList.drop i) = n) := ⟨_, rfl⟩
  have ha : Hid (tokAt s i = if 1 ≤ n ∧ n ≤ 100 then ((i + n : Nat) : Int) else -1) := by
    show _ = _
    rw [← hn.out]; rfl
  rw [hn.out] at hle TC
  have CT : Hid (∀ w, Calls Tryd.prog 68 #[.string (s.extract i (i + n))] w fun e w' => e = .returned (.bool (decide (1 ≤ n ∧ n ≤ 100))) ∧ w = w') := fun w => by
    rw [← TC]
    exact rtoken_any _ (by rw [ByteArray.size_extract]; omega) w
  clear TC
  obtain ⟨res, hres⟩ : ∃ res, Hid (tokAt s i = res) := ⟨_, rfl⟩
  rw [hres.out] at ha ⊢
  go_enter Tryd.func57, Tryd.ntmps57
  go_wp2_with fail
  go_loopg [5] n (fun g v wr => ∃ k : Nat, v = .int .i64 k ∧ k + g = i + n ∧ Hid (spanN inTok (s.data.toList.drop k) = g) ∧ w = wr)
  case atStart => exact ⟨i, rfl, rfl, hn, rfl⟩
  case round =>
    clear hn
    obtain ⟨k, rfl, hg, hd, rfl⟩ := hrel
    have y1 : (0 : Int) ≤ (k : Int) := by omega
    have x1 : (0 : Int) ≤ (i : Int) := by omega
    by_cases hlt : k < s.size
    · have y0 : (k : Int) < (s.size : Int) := by omega
      have ix := byte_at s k hlt
      have hd := hd.out
      rw [bytes_drop hlt] at hd
      have C := hH (s.get! k) w
      clear hH
      generalize s.get! k = d at *
      obtain ⟨q, hq⟩ : ∃ q, inTok d = q := ⟨_, rfl⟩
      rw [hq] at C
      cases q with
      | true =>
        rw [spanN_yes hq] at hd
        have V : Hid (spanN inTok (s.data.toList.drop (k + 1)) = gk - 1) := by show _ = _; omega
        have hg2 : Hid (gk = gk - 1 + 1) := by show _ = _; omega
        clear hd hq
        go_wp2_with fail
        refine C.mono ?_; rintro e w1 ⟨rfl, rfl⟩
        go_wp2_with fail
        go_roundg (gk - 1)
        case measure => have := hg2.out; omega
        case rel => exact ⟨k + 1, by go_num, by have := hg2.out; omega, V, rfl⟩
      | false =>
        rw [spanN_no hq] at hd
        have hk : Hid (k = i + n) := by show k = _; omega
        have x2 : (i : Int) ≤ (k : Int) := by have := hk.out; omega
        have x3 : (k : Int) ≤ (s.size : Int) := by have := hk.out; omega
        have CT := CT.out w
        rw [← hk.out] at CT
        clear hd hq
        by_cases hok : 1 ≤ n ∧ n ≤ 100
        · rw [decide_eq_true hok] at CT
          have V : Aside (res = (k : Int)) := by have := ha.out; rw [if_pos hok] at this; rw [hk.out]; exact this
          clear ha hok
          go_wp2_with fail
          refine C.mono ?_; rintro e w1 ⟨rfl, rfl⟩
          go_wp2_with fail
          refine CT.mono ?_; rintro e w1 ⟨rfl, rfl⟩
          go_wp2_with fail
          go_ret
          exact ⟨by rw [V.out]; rfl, rfl⟩
        · rw [decide_eq_false hok] at CT
          have V : Aside (res = -1) := by have := ha.out; rwa [if_neg hok] at this
          clear ha hok
          go_wp2_with fail
          refine C.mono ?_; rintro e w1 ⟨rfl, rfl⟩
          go_wp2_with fail
          refine CT.mono ?_; rintro e w1 ⟨rfl, rfl⟩
          go_wp2_with fail
          go_ret
          exact ⟨by rw [V.out]; rfl, rfl⟩
    · have y0 : ¬ (k : Int) < (s.size : Int) := by omega
      have hd := hd.out
      rw [bytes_end (by omega), spanN_nil] at hd
      have hk : Hid (k = i + n) := by show k = _; omega
      have x2 : (i : Int) ≤ (k : Int) := by have := hk.out; omega
      have x3 : (k : Int) ≤ (s.size : Int) := by have := hk.out; omega
      have CT := CT.out w
      rw [← hk.out] at CT
      clear hd hH
      by_cases hok : 1 ≤ n ∧ n ≤ 100
      · rw [decide_eq_true hok] at CT
        have V : Aside (res = (k : Int)) := by have := ha.out; rw [if_pos hok] at this; rw [hk.out]; exact this
        clear ha hok
        go_wp2_with fail
        refine CT.mono ?_; rintro e w1 ⟨rfl, rfl⟩
        go_wp2_with fail
        go_ret
        exact ⟨by rw [V.out]; rfl, rfl⟩
      · rw [decide_eq_false hok] at CT
        have V : Aside (res = -1) := by have := ha.out; rwa [if_neg hok] at this
        clear ha hok
        go_wp2_with fail
        refine CT.mono ?_; rintro e w1 ⟨rfl, rfl⟩
        go_wp2_with fail
        go_ret
        exact ⟨by rw [V.out]; rfl, rfl⟩
end Go.Proofs.YtelofhplpeeplaaDoor.media
