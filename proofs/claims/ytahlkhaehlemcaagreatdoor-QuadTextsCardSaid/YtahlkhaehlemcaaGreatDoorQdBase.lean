/- quad.based, quad.digitsOf, strings.TrimLeft at digits, quad.unended. -/
import Derived.Test.YtahlkhaehlemcaaGreatDoorQdMath
import Derived.Test.YtahlkhaehlemcaaGreatDoorShelf
import Derived.Shelf.Strings.SlTrimAscii
set_option linter.unusedSimpArgs false
set_option linter.unusedVariables false
namespace Go.Proofs.YtahlkhaehlemcaaGreatDoor.qread
open Go.RowKit Go.Proofs.YtahlkhaehlemcaaGreatDoor.errs Go.Proofs.YtahlkhaehlemcaaGreatDoor.qmath

theorem get_at (t : ByteArray) (i : Nat) (h : i < t.size) : t.get! i = t[i]'h := by
  show t.data[i]! = _
  rw [getElem!_pos t.data i h]
  rfl

/-- What tells a part's number, and by which base. -/
def hexed (t : ByteArray) : Bool := Lib.hasPrefix t.data.toList [48, 120] || Lib.hasPrefix t.data.toList [48, 88]
def eight (t : ByteArray) : Bool := decide (1 < t.size) && decide (t.get! 0 = 48)
def restOf (t : ByteArray) : ByteArray := if hexed t then t.extract 2 t.size else if eight t then t.extract 1 t.size else t
def baseOf (t : ByteArray) : Nat := if hexed t then 16 else if eight t then 8 else 10
theorem base_is (t : ByteArray) : IsBase (baseOf t) := by
  unfold baseOf IsBase
  split
  · exact .inr (.inr rfl)
  · split
    · exact .inl rfl
    · exact .inr (.inl rfl)
theorem hexed_size {t : ByteArray} (h : hexed t = true) : 2 ≤ t.size := by
  have : ∀ a b : UInt8, Lib.hasPrefix t.data.toList [a, b] = true → 2 ≤ t.size := fun a b h => by
    unfold Lib.hasPrefix at h
    have := (List.isPrefixOf_iff_prefix.1 h).length_le
    rw [← Lib.size_eq] at this
    exact this
  rcases Bool.or_eq_true _ _ ▸ h with h | h <;> exact this _ _ h

set_option maxHeartbeats 1000000 in
theorem based_any (t : ByteArray) (hs : t.size ≤ 1000000) (w : World) :
    Calls Tryz.prog 28 #[.string t] w fun e w' => e = .returned (.tuple #[.string (restOf t), .int .i64 (baseOf t)]) ∧ w = w' := by
  have P1 := Tryz.strings_HasPrefix t ⟨#[48, 120]⟩
  have P2 := Tryz.strings_HasPrefix t ⟨#[48, 88]⟩
  have e1 : Lib.hasPrefix t.data.toList (⟨#[48, 120]⟩ : ByteArray).data.toList = Lib.hasPrefix t.data.toList [48, 120] := rfl
  have e2 : Lib.hasPrefix t.data.toList (⟨#[48, 88]⟩ : ByteArray).data.toList = Lib.hasPrefix t.data.toList [48, 88] := rfl
  rw [e1] at P1
  rw [e2] at P2
  have hz := @hexed_size t
  unfold restOf baseOf
  cases h1 : Lib.hasPrefix t.data.toList [48, 120] with
  | true =>
    have hx : hexed t = true := by unfold hexed; rw [h1]; rfl
    have h2 := hz hx
    have y0 : (2 : Int) ≤ (t.size : Int) := by omega
    simp only [hx, ↓reduceIte]
    rw [h1] at P1
    clear hz e1 e2 P2 h1 hx
    go_enter Tryz.func28, Tryz.ntmps28
    go_wp2_with (go_at_call 50; refine (P1 _).mono ?_; rintro e w' ⟨rfl, rfl⟩)
    go_ret2
    exact ⟨rfl, rfl⟩
  | false =>
    cases h2 : Lib.hasPrefix t.data.toList [48, 88] with
    | true =>
      have hx : hexed t = true := by unfold hexed; rw [h2]; exact Bool.or_true _
      have h3 := hz hx
      have y0 : (2 : Int) ≤ (t.size : Int) := by omega
      simp only [hx, ↓reduceIte]
      rw [h1] at P1
      rw [h2] at P2
      clear hz e1 e2 h1 h2 hx
      go_enter Tryz.func28, Tryz.ntmps28
      go_wp2_with fail
      refine (P1 _).mono ?_; rintro e w' ⟨rfl, rfl⟩
      go_wp2_with fail
      refine (P2 _).mono ?_; rintro e w' ⟨rfl, rfl⟩
      go_wp2_with fail
      go_ret2
      exact ⟨rfl, rfl⟩
    | false =>
      have hx : hexed t = false := by unfold hexed; rw [h1, h2]; rfl
      simp only [hx, Bool.false_eq_true, ↓reduceIte]
      rw [h1] at P1
      rw [h2] at P2
      clear hz e1 e2 h1 h2 hx
      by_cases h3 : 1 < t.size
      · have y0 : (1 : Int) < (t.size : Int) := by omega
        have x0 : 0 < t.size := by omega
        have g0 := get_at t 0 x0
        by_cases h4 : t.get! 0 = 48
        · have y4 : (((t[0]'x0).toNat : Int) == 48) = true := by rw [← g0, h4]; rfl
          have he : eight t = true := by unfold eight; rw [decide_eq_true h3, decide_eq_true h4]; rfl
          simp only [he, ↓reduceIte]
          clear he h4 g0
          go_enter Tryz.func28, Tryz.ntmps28
          go_wp2_with fail
          refine (P1 _).mono ?_; rintro e w' ⟨rfl, rfl⟩
          go_wp2_with fail
          refine (P2 _).mono ?_; rintro e w' ⟨rfl, rfl⟩
          go_wp2_with fail
          go_ret2
          exact ⟨rfl, rfl⟩
        · have y4 : (((t[0]'x0).toNat : Int) == 48) = false := by
            rw [← g0]
            refine beq_eq_false_iff_ne.2 fun e => h4 ?_
            have : (t.get! 0).toNat = 48 := by omega
            exact UInt8.toNat_inj.1 this
          have he : eight t = false := by unfold eight; rw [decide_eq_false h4]; exact Bool.and_false _
          simp only [he, Bool.false_eq_true, ↓reduceIte]
          clear he h4 g0
          go_enter Tryz.func28, Tryz.ntmps28
          go_wp2_with fail
          refine (P1 _).mono ?_; rintro e w' ⟨rfl, rfl⟩
          go_wp2_with fail
          refine (P2 _).mono ?_; rintro e w' ⟨rfl, rfl⟩
          go_wp2_with fail
          go_ret2
          exact ⟨rfl, rfl⟩
      · have y0 : ¬ (1 : Int) < (t.size : Int) := by omega
        have he : eight t = false := by unfold eight; rw [decide_eq_false h3]; rfl
        simp only [he, Bool.false_eq_true, ↓reduceIte]
        clear he
        go_enter Tryz.func28, Tryz.ntmps28
        go_wp2_with fail
        refine (P1 _).mono ?_; rintro e w' ⟨rfl, rfl⟩
        go_wp2_with fail
        refine (P2 _).mono ?_; rintro e w' ⟨rfl, rfl⟩
        go_wp2_with fail
        go_ret2
        exact ⟨rfl, rfl⟩

theorem digitsOf_any {b : Nat} (hb : IsBase b) (w : World) :
    Calls Tryz.prog 30 #[.int .i64 b] w fun e w' => e = .returned (.string ⟨(digs b).toArray⟩) ∧ w = w' := by
  rcases hb with rfl | rfl | rfl
  all_goals
    go_enter Tryz.func30, Tryz.ntmps30
    go_wp2_with fail
    go_ret
    exact ⟨rfl, rfl⟩

theorem trimLeft_any {b : Nat} (hb : IsBase b) (s : ByteArray) (w : World) :
    Calls Tryz.prog 40 #[.string s, .string ⟨(digs b).toArray⟩] w fun e w' => e = .returned (.string ⟨(Lib.trimLeftS s.data.toList (digs b)).toArray⟩) ∧ Below w.heap.size w w' := by
  have key : ∀ b, IsBase b → (⟨(digs b).toArray⟩ : ByteArray).size < 4294967281 ∧ (digs b).all (fun b => decide (b.toNat < 128)) = true := by
    rintro b (rfl | rfl | rfl) <;> decide
  exact Any.strings_TrimLeft_laid Tryz.lays161 (by kernel_rfl) s ⟨(digs b).toArray⟩ w (key b hb).1 (ascii_of_all (key b hb).2)

def unended (s : ByteArray) : ByteArray := if 1 < s.size then ⟨(Lib.trimSuffix s.data.toList [46]).toArray⟩ else s
theorem unended_any (s : ByteArray) (hs : s.size ≤ 1000000) (w : World) :
    Calls Tryz.prog 17 #[.string s] w fun e w' => e = .returned (.string (unended s)) ∧ w = w' := by
  have T := Tryz.strings_TrimSuffix s ⟨#[46]⟩ w (by omega)
  have e1 : Lib.trimSuffix s.data.toList (⟨#[46]⟩ : ByteArray).data.toList = Lib.trimSuffix s.data.toList [46] := rfl
  rw [e1] at T
  clear e1
  unfold unended
  by_cases h : 1 < s.size
  · have y0 : (1 : Int) < (s.size : Int) := by omega
    rw [if_pos h]
    generalize (⟨(Lib.trimSuffix s.data.toList [46]).toArray⟩ : ByteArray) = u at *
    go_enter Tryz.func17, Tryz.ntmps17
    go_wp2_with fail
    refine T.mono ?_; rintro e w1 ⟨rfl, rfl⟩
    go_wp2_with fail
    go_ret
    exact ⟨rfl, rfl⟩
  · have y0 : ¬ (1 : Int) < (s.size : Int) := by omega
    rw [if_neg h]
    go_enter Tryz.func17, Tryz.ntmps17
    go_wp2_with fail
    go_ret
    exact ⟨rfl, rfl⟩
end Go.Proofs.YtahlkhaehlemcaaGreatDoor.qread
