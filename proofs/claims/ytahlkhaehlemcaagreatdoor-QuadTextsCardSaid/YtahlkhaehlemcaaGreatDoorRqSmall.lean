/- The document's own answers for layer 11, in small: what begins a part, bytes of a text, powers, digits. -/
import Derived.Test.YtahlkhaehlemcaaGreatDoorQdBase
import Derived.Test.YtahlkhaehlemcaaGreatDoorQdFell
import Derived.Deep.LoopGhost
import Derived.Lib.Hide
set_option linter.unusedSimpArgs false
set_option linter.unusedVariables false
namespace Go.Proofs.YtahlkhaehlemcaaGreatDoor.rq
open Go.RowKit Go.Proofs.YtahlkhaehlemcaaGreatDoor.errs Go.Proofs.YtahlkhaehlemcaaGreatDoor.qmath Go.Proofs.YtahlkhaehlemcaaGreatDoor.qread

theorem byte_eq {t : ByteArray} {i : Nat} (h : i < t.size) (c : UInt8) : (((t[i]'h).toNat : Int) == (c.toNat : Int)) = decide (t.get! i = c) := by
  rw [← qread.get_at t i h]
  by_cases e : t.get! i = c
  · rw [decide_eq_true e, e]; exact beq_iff_eq.2 rfl
  · rw [decide_eq_false e]
    exact beq_eq_false_iff_ne.2 fun q => e (UInt8.toNat_inj.1 (by omega))
theorem byte_at {t : ByteArray} {i : Nat} (h : i < t.size) : t.data.toList[i]? = some (t.get! i) := by
  rw [qread.get_at t i h]
  have h' : i < t.data.toList.length := by rw [Array.length_toList]; exact h
  rw [List.getElem?_eq_getElem h']
  simp
  rfl

theorem hexed_bytes (t : ByteArray) : hexed t = (decide (1 < t.size) && (decide (t.get! 0 = 48) && (decide (t.get! 1 = 120) || decide (t.get! 1 = 88)))) := by
  unfold hexed Lib.hasPrefix
  by_cases h : 1 < t.size
  · have h0 := byte_at (t := t) (i := 0) (by omega)
    have h1 := byte_at (t := t) (i := 1) h
    generalize t.get! 0 = a at *
    generalize t.get! 1 = b at *
    match hl : t.data.toList, h0, h1 with
    | x :: y :: r, h0, h1 =>
      obtain rfl : x = a := by simpa using h0
      obtain rfl : y = b := by simpa using h1
      rw [decide_eq_true h]
      have hb : ∀ a b : UInt8, (a == b) = decide (b = a) := fun a b => by
        by_cases e : b = a
        · rw [decide_eq_true e, e]; exact beq_self_eq_true a
        · rw [decide_eq_false e]; exact beq_eq_false_iff_ne.2 fun q => e q.symm
      show ((48 == x && (120 == y && ([] : List UInt8).isPrefixOf r)) || (48 == x && (88 == y && ([] : List UInt8).isPrefixOf r))) = _
      rw [hb, hb, hb, show ([] : List UInt8).isPrefixOf r = true by cases r <;> rfl]
      generalize decide (x = 48) = p0
      generalize decide (y = 120) = p1
      generalize decide (y = 88) = p2
      cases p0 <;> cases p1 <;> cases p2 <;> rfl
  · have hsz : t.data.toList.length ≤ 1 := by rw [Array.length_toList]; show t.size ≤ 1; omega
    rw [decide_eq_false h]
    match hl : t.data.toList, hsz with
    | [], _ => rfl
    | [x], _ => simp [List.isPrefixOf]

theorem rhexed_any (t : ByteArray) (hs : t.size ≤ 1000000) (w : World) :
    Calls Tryz.prog 31 #[.string t] w fun e w' => e = .returned (.bool (hexed t)) ∧ w = w' := by
  rw [hexed_bytes]
  by_cases h : 1 < t.size
  · have y0 : (1 : Int) < (t.size : Int) := by omega
    have x0 : 0 < t.size := by omega
    have b0 := byte_eq x0 48
    have b1 := byte_eq h 120
    have b2 := byte_eq h 88
    simp only [show ((48 : UInt8).toNat : Int) = 48 from rfl, show ((120 : UInt8).toNat : Int) = 120 from rfl, show ((88 : UInt8).toNat : Int) = 88 from rfl] at b0 b1 b2
    rw [decide_eq_true h, Bool.true_and]
    generalize decide (t.get! 0 = 48) = p0 at *
    generalize decide (t.get! 1 = 120) = p1 at *
    generalize decide (t.get! 1 = 88) = p2 at *
    cases p0 <;> cases p1 <;> cases p2
    all_goals
      go_enter Tryz.func31, Tryz.ntmps31
      go_wp2_with fail
      go_ret
      exact ⟨rfl, rfl⟩
  · have y0 : ¬ (1 : Int) < (t.size : Int) := by omega
    rw [decide_eq_false h]
    go_enter Tryz.func31, Tryz.ntmps31
    go_wp2_with fail
    go_ret
    exact ⟨rfl, rfl⟩

/-- How many bytes tell a part's base. -/
def skipOf (t : ByteArray) : Nat := if hexed t then 2 else if eight t then 1 else 0
theorem rbase_any (t : ByteArray) (hs : t.size ≤ 1000000) (w : World) :
    Calls Tryz.prog 22 #[.string t] w fun e w' => e = .returned (.tuple #[.int .u64 (baseOf t), .int .i64 (skipOf t)]) ∧ w = w' := by
  have H := rhexed_any t hs
  unfold baseOf skipOf
  cases hx : hexed t with
  | true =>
    rw [hx] at H
    simp only [↓reduceIte]
    clear hx
    go_enter Tryz.func22, Tryz.ntmps22
    go_wp2_with fail
    refine (H _).mono ?_; rintro e w1 ⟨rfl, rfl⟩
    go_wp2_with fail
    go_ret2
    exact ⟨rfl, rfl⟩
  | false =>
    rw [hx] at H
    simp only [Bool.false_eq_true, ↓reduceIte]
    clear hx
    by_cases h : 1 < t.size
    · have y0 : (1 : Int) < (t.size : Int) := by omega
      have x0 : 0 < t.size := by omega
      have b0 := byte_eq x0 48
      simp only [show ((48 : UInt8).toNat : Int) = 48 from rfl] at b0
      unfold eight
      rw [decide_eq_true h, Bool.true_and]
      generalize decide (t.get! 0 = 48) = p0 at *
      cases p0
      · simp only [Bool.false_eq_true, ↓reduceIte]
        go_enter Tryz.func22, Tryz.ntmps22
        go_wp2_with fail
        refine (H _).mono ?_; rintro e w1 ⟨rfl, rfl⟩
        go_wp2_with fail
        go_ret2
        exact ⟨rfl, rfl⟩
      · simp only [↓reduceIte]
        go_enter Tryz.func22, Tryz.ntmps22
        go_wp2_with fail
        refine (H _).mono ?_; rintro e w1 ⟨rfl, rfl⟩
        go_wp2_with fail
        go_ret2
        exact ⟨rfl, rfl⟩
    · have y0 : ¬ (1 : Int) < (t.size : Int) := by omega
      have e8 : eight t = false := by unfold eight; rw [decide_eq_false h]; rfl
      simp only [e8, Bool.false_eq_true, ↓reduceIte]
      clear e8
      go_enter Tryz.func22, Tryz.ntmps22
      go_wp2_with fail
      refine (H _).mono ?_; rintro e w1 ⟨rfl, rfl⟩
      go_wp2_with fail
      go_ret2
      exact ⟨rfl, rfl⟩

theorem drop_at {s : ByteArray} {i : Nat} (h : i < s.size) : s.data.toList.drop i = s.get! i :: s.data.toList.drop (i + 1) := by
  have h' : i < s.data.toList.length := by rw [Array.length_toList]; exact h
  rw [List.drop_eq_getElem_cons h']
  congr 1
  have := byte_at h
  rw [List.getElem?_eq_getElem h'] at this
  exact Option.some.inj this
theorem drop_end {s : ByteArray} {i : Nat} (h : s.size ≤ i) : s.data.toList.drop i = [] := List.drop_eq_nil_of_le (by rw [Array.length_toList]; exact h)

/-- Does a byte stand in a text? -/
theorem rhas_any (s : ByteArray) (c : UInt8) (hs : s.size ≤ 1000000) (w : World) :
    Calls Tryz.prog 23 #[.string s, .int .u8 c.toNat] w fun e w' => e = .returned (.bool (s.data.toList.contains c)) ∧ w = w' := by
  obtain ⟨res, hres⟩ : ∃ res, Hid (s.data.toList.contains c = res) := ⟨_, rfl⟩
  rw [hres.out]
  obtain ⟨ci, hci⟩ : ∃ ci, Hid ((c.toNat : Int) = ci) := ⟨_, rfl⟩
  rw [hci.out]
  go_enter Tryz.func23, Tryz.ntmps23
  go_wp2_with fail
  go_loopg [5] s.size (fun g v wr => ∃ i : Nat, v = .int .i64 i ∧ g + i = s.size ∧ Hid ((s.data.toList.drop i).contains c = res) ∧ w = wr)
  case atStart => exact ⟨0, rfl, by omega, hres, rfl⟩
  case round =>
    clear hres
    obtain ⟨i, rfl, hg, hd, rfl⟩ := hrel
    by_cases hlt : i < s.size
    · obtain ⟨g, rfl⟩ : ∃ g, gk = g + 1 := ⟨gk - 1, by omega⟩
      have y0 : (i : Int) < (s.size : Int) := by omega
      have y1 : (0 : Int) ≤ (i : Int) := by omega
      have be := byte_eq hlt c
      rw [hci.out] at be
      have hd := hd.out
      rw [drop_at hlt] at hd
      by_cases e : s.get! i = c
      · rw [decide_eq_true e] at be
        have V : Aside (res = true) := by rw [← hd, e]; exact (List.contains_cons ..).trans (by rw [beq_self_eq_true, Bool.true_or])
        clear hd e
        go_wp2_with fail
        go_ret
        rw [V.out]
        exact ⟨rfl, rfl⟩
      · rw [decide_eq_false e] at be
        have V : Hid ((s.data.toList.drop (i + 1)).contains c = res) := by
          rw [List.contains_cons, show (c == s.get! i) = false from beq_eq_false_iff_ne.2 (fun q => e q.symm), Bool.false_or] at hd
          exact hd
        clear hd e
        go_wp2_with fail
        go_roundg g
        case measure => omega
        case rel => exact ⟨i + 1, rfl, by omega, V, rfl⟩
    · have y0 : ¬ (i : Int) < (s.size : Int) := by omega
      have V : Aside (res = false) := by
        have hd := hd.out
        rw [drop_end (by omega)] at hd
        exact hd.symm
      clear hd
      go_wp2_with fail
      go_ret
      rw [V.out]
      exact ⟨rfl, rfl⟩

def pw (n : Nat) : Int := ((256 ^ n : Nat) : Int)
theorem pw_succ (n : Nat) : pw (n + 1) = pw n * 256 := by unfold pw; rw [Nat.pow_succ]; simp
theorem rpower_any (n : Nat) (hn : n ≤ 5) (w : World) :
    Calls Tryz.prog 25 #[.int .i64 n] w fun e w' => e = .returned (.int .u64 (pw n)) ∧ w = w' := by
  go_enter Tryz.func25, Tryz.ntmps25
  go_wp2_with fail
  go_loopg [3, 4] n (fun g v0 v1 wr => ∃ (i : Nat) (x : Int), v0 = .int .u64 x ∧ v1 = .int .i64 i ∧ g + i = n ∧ Hid (x = pw i) ∧ w = wr)
  case atStart => exact ⟨0, 1, rfl, rfl, by omega, rfl, rfl⟩
  case round =>
    obtain ⟨i, x, rfl, rfl, hg, hx, rfl⟩ := hrel
    by_cases hlt : i < n
    · obtain ⟨g, rfl⟩ : ∃ g, gk = g + 1 := ⟨gk - 1, by omega⟩
      have y0 : (i : Int) < (n : Int) := by omega
      have hb : 256 ^ i ≤ 256 ^ 4 := Nat.pow_le_pow_right (by decide) (by omega)
      have x0 : 0 ≤ x := by rw [hx.out]; exact Int.natCast_nonneg _
      have x1 : x ≤ 4294967296 := by rw [hx.out]; exact Int.ofNat_le.2 hb
      have N : Hid (x * 256 = pw (i + 1)) := by
        show _ = _
        rw [pw_succ, hx.out]
      clear hx hb
      go_wp2_with fail
      go_roundg g
      case measure => omega
      case rel => exact ⟨i + 1, _, rfl, rfl, by omega, N, rfl⟩
    · have y0 : ¬ (i : Int) < (n : Int) := by omega
      have V : Aside (x = pw n) := by rw [show n = i by omega]; exact hx.out
      clear hx
      go_wp2_with fail
      go_ret
      rw [← V.out]
      exact ⟨rfl, rfl⟩
end Go.Proofs.YtahlkhaehlemcaaGreatDoor.rq
