/- strconv.ParseUint by the bases 8, 10 and 16, of digits: the number and no error, or the greatest one and some error. -/
import Derived.Test.YtahlkhaehlemcaaGreatDoorQdUint8
import Derived.Test.YtahlkhaehlemcaaGreatDoorQdUint10
import Derived.Test.YtahlkhaehlemcaaGreatDoorQdUint16
set_option linter.unusedSimpArgs false
set_option linter.unusedVariables false
namespace Go.Proofs.YtahlkhaehlemcaaGreatDoor.qread
open Go.RowKit Go.Proofs.YtahlkhaehlemcaaGreatDoor.errs Go.Proofs.YtahlkhaehlemcaaGreatDoor.qmath

/-- The variable from which an error of the range is made. -/
def RangeVar (w : World) : Prop := ∃ ev, w.cell? ⟨3, 0, none⟩ = some ev ∧ (ev = .nilIface ∨ ∃ te pe, ev = .iface te pe)
theorem RangeVar.below {w w' : World} {B : Nat} (h : RangeVar w) (hb : Below B w w') (hB : w.heap.size ≤ B) : RangeVar w' := by
  obtain ⟨ev, h1, h2⟩ := h
  exact ⟨ev, (hb.cell (p := ⟨3, 0, none⟩) (Nat.lt_of_lt_of_le (lt_of_cell h1) hB)).trans h1, h2⟩

def InnerOut (o : Option Nat) (w : World) (e : Ending) (w' : World) : Prop :=
  match o with
  | some n => e = .returned (.tuple #[.int .u64 n, .nilIface]) ∧ Below w.heap.size w w'
  | none => e = .returned (.tuple #[.int .u64 18446744073709551615, .iface 136 (.int .i64 1)]) ∧ Below w.heap.size w w'

theorem inner_any {b : Nat} (hb : IsBase b) (t : ByteArray) (hne : t.size ≠ 0) (hmax : t.size ≤ 1000000) (hd : ∀ c ∈ t.data.toList, isDig b c = true) (w : World) :
    Calls Tryz.prog 63 #[.string t, .int .i64 b, .int .i64 64] w fun e w' => InnerOut (num b 0 t.data.toList) w e w' := by
  rcases hb with rfl | rfl | rfl
  · refine (quint8.inner t hne hmax hd w).mono fun e w' ⟨h1, h2⟩ => ?_
    cases h : num 8 0 t.data.toList <;> rw [h] at h1 <;> exact ⟨h1, h2⟩
  · refine (quint10.inner t hne hmax hd w).mono fun e w' ⟨h1, h2⟩ => ?_
    cases h : num 10 0 t.data.toList <;> rw [h] at h1 <;> exact ⟨h1, h2⟩
  · refine (quint16.inner t hne hmax hd w).mono fun e w' ⟨h1, h2⟩ => ?_
    cases h : num 16 0 t.data.toList <;> rw [h] at h1 <;> exact ⟨h1, h2⟩

/-- The public call: its number, and whichever error. -/
theorem public_any {b : Nat} (hb : IsBase b) (t : ByteArray) (hne : t.size ≠ 0) (hmax : t.size ≤ 1000000) (hd : ∀ c ∈ t.data.toList, isDig b c = true) (w : World) (hv : RangeVar w) :
    Calls Tryz.prog 41 #[.string t, .int .i64 b, .int .i64 64] w fun e w' => ∃ x, e = .returned (.tuple #[.int .u64 (numAt (num b 0 t.data.toList)), x]) ∧ Below w.heap.size w w' := by
  have C := inner_any hb t hne hmax hd w
  cases hn : num b 0 t.data.toList with
  | some n =>
    rw [hn] at C
    have C : Calls Tryz.prog 63 #[.string t, .int .i64 b, .int .i64 64] w fun e w' => e = .returned (.tuple #[.int .u64 n, .nilIface]) ∧ Below w.heap.size w w' := C
    show Calls _ _ _ _ fun e w' => ∃ x, e = .returned (.tuple #[.int .u64 (n : Nat), x]) ∧ Below w.heap.size w w'
    clear hn hd hb
    go_enter Tryz.func41, Tryz.ntmps41
    go_wp2_with fail
    refine C.mono ?_; rintro e w1 ⟨rfl, hb1⟩
    go_wp2_with fail
    go_ret2
    exact ⟨_, rfl, hb1⟩
  | none =>
    rw [hn] at C
    have C : Calls Tryz.prog 63 #[.string t, .int .i64 b, .int .i64 64] w fun e w' => e = .returned (.tuple #[.int .u64 18446744073709551615, .iface 136 (.int .i64 1)]) ∧ Below w.heap.size w w' := C
    show Calls _ _ _ _ fun e w' => ∃ x, e = .returned (.tuple #[.int .u64 (18446744073709551615 : Int), x]) ∧ Below w.heap.size w w'
    clear hn hd hb
    go_enter Tryz.func41, Tryz.ntmps41
    go_wp2_with fail
    refine C.mono ?_; rintro e w1 ⟨rfl, hb1⟩
    obtain ⟨ev, h1, h2⟩ := hv.below hb1 (Nat.le_refl _)
    have T := Tryz.strconv_toError_range ⟨#[80, 97, 114, 115, 101, 85, 105, 110, 116]⟩ t b 64 ev w1 (by omega) h1 h2
    clear h1 h2 hv
    go_wp2_with fail
    refine T.mono ?_; rintro e w2 ⟨N, rfl, -, -, hb2⟩
    go_wp2_with fail
    go_ret2
    exact ⟨_, rfl, hb1.trans (hb2.mono hb1.size)⟩
end Go.Proofs.YtahlkhaehlemcaaGreatDoor.qread
