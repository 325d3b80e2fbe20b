/- internal/strconv.ParseUint by base 8, of digits of that base: the number, or the greatest one and the range's error. -/
import Derived.Test.YtahlkhaehlemcaaGreatDoorQdMath
import Derived.Test.YtahlkhaehlemcaaGreatDoorShelf
import Derived.Lib.Strings
import Derived.Lib.Walk
import Derived.Lib.ConvBytes
import Derived.Lib.Hide
import Derived.Lib.UnsafeStr
import Derived.Laws.Strings3
import Derived.Laws.Closers25
import Derived.Laws.Closers25b
import Derived.BigCall
import Derived.BigGuard
set_option linter.unusedSimpArgs false
set_option linter.unusedVariables false
namespace Go.Proofs.YtahlkhaehlemcaaGreatDoor.quint8
open Go.RowKit Go.Proofs.YtahlkhaehlemcaaGreatDoor.errs Go.Proofs.YtahlkhaehlemcaaGreatDoor.qmath

def numErr (o : Option Nat) : Value := match o with | some _ => .nilIface | none => .iface 136 (.int .i64 1)

set_option maxHeartbeats 32000000 in
set_option maxRecDepth 100000 in
theorem inner (t : ByteArray) (hne : t.size ≠ 0) (hmax : t.size ≤ 1000000) (hd : ∀ c ∈ t.data.toList, isDig 8 c = true) (w : World) :
    Calls Tryz.prog 63 #[.string t, .int .i64 8, .int .i64 64] w fun e w' => e = .returned (.tuple #[.int .u64 (numAt (num 8 0 t.data.toList)), numErr (num 8 0 t.data.toList)]) ∧ Below w.heap.size w w' := by
  obtain ⟨res, hres⟩ : ∃ res, Hid (num 8 0 t.data.toList = res) := ⟨_, rfl⟩
  rw [hres.out]
  have hemp : t.toList.isEmpty = false := by
    rw [← decide_eq_emptyBytes]
    exact decide_eq_false (fun h => hne (by rw [h]; rfl))
  have hcv := Lib.run_convert_string_bytes (P := Tryz.prog) w 9 75 5 t (u := .string) Tryz.underlying9 Tryz.underlying75 Tryz.underlying5
  have hB : ∀ j, j < t.size → (Lib.bytesWorld w 5 t).cell? ⟨w.heap.size, j, none⟩ = some (.int .u8 (t.data.toList.getD j 0).toNat) := fun j hj => Lib.bytesWorld_cell w 5 t j hj
  have hbw : Below w.heap.size w (Lib.bytesWorld w 5 t) := Lib.below_freeze ((Below.drew (Below.refl _ w)).alloc (Nat.le_refl _) _) (p := ⟨w.heap.size, _, none⟩) (Nat.le_refl _) 1
  obtain ⟨W1, hW1⟩ : ∃ W1, W1 = Lib.bytesWorld w 5 t := ⟨_, rfl⟩
  rw [← hW1] at hcv hB hbw
  clear hW1
  have HW : Aside (Below w.heap.size w W1) := hbw
  clear hbw
  obtain ⟨bs, hL⟩ : ∃ bs, bs = t.data.toList := ⟨_, rfl⟩
  have hLn : bs.length = t.size := by rw [hL, Lib.size_eq]
  rw [← hL] at hB hres hd
  have HD : Aside (∀ c ∈ bs, isDig 8 c = true) := hd
  clear hL hd
  have hmv : IntKind.u64.wrap (IntKind.u64.wrap 18446744073709551616 - 1) = 18446744073709551615 := by
    rw [IntKind.wrap_u64, IntKind.wrap_u64]
    decide
  go_enter Tryz.func63, Tryz.ntmps63
  go_wp2
  go_loop [12, 13, 101] (fun vu vn vi => ∃ (k acc : Nat) (a : Int), vu = .bool false ∧ vn = .int .u64 a ∧ vi = .int .i64 k ∧ k ≤ t.size ∧ Hid (a = (acc : Int) ∧ acc < 18446744073709551616 ∧ num 8 acc (bs.drop k) = res))
    (fun _ _ vi => t.size - (intOf vi).toNat)
  case atStart => exact ⟨0, 0, 0, rfl, rfl, rfl, by omega, rfl, by omega, by simpa using hres.out⟩
  case round =>
    clear hres
    obtain ⟨k, acc, a, rfl, rfl, rfl, hk, hh⟩ := hrel
    obtain ⟨ha, hacc, hdec⟩ := hh.out
    clear hh
    have a0 : 0 ≤ a := by omega
    have a1 : a < 18446744073709551616 := by omega
    by_cases hkn : k < t.size
    · have hc := hB k hkn
      have hdrop : bs.drop k = bs[k]'(by omega) :: bs.drop (k + 1) := List.drop_eq_getElem_cons (by omega)
      have hget : bs.getD k 0 = bs[k]'(by omega) := by simp [List.getD, List.getElem?_eq_getElem (show k < bs.length by omega)]
      have hdk : isDig 8 (bs[k]'(by omega)) = true := HD.out _ (List.getElem_mem _)
      rw [hdrop] at hdec
      rw [hget] at hc
      generalize bs[k]'(by omega) = c at hc hdec hdk
      have hc256 : c.toNat < 256 := c.toNat_lt
      clear hB hdrop hget
      have hdv := dval_lt hdk
      have L0 := Tryz.internal_strconv_lower (c.toNat : Int)
      obtain ⟨m, hm⟩ : ∃ m, Hid (bits .or .u8 (c.toNat : Int) 32 = m) := ⟨_, rfl⟩
      rw [hm.out] at L0
      rcases dig_cases hdk with ⟨q0, q1, q2⟩ | ⟨qb, q⟩
      · have hval := dval_digit q0 q1
        rw [hval] at hdv
        by_cases hcut : 2305843009213693952 ≤ acc
        · have hF : num 8 acc (c :: bs.drop (k + 1)) = none := num_over (by omega)
          rw [hF] at hdec
          have icut : 2305843009213693952 ≤ a := by omega
          have V : Aside (res = none) := hdec.symm
          clear hcut hacc hF ha hdec hval hdk L0 hm
          go_wp2
          go_ret2
          rw [V.out]
          exact ⟨rfl, HW.out⟩
        · have hlt : acc * 8 + dval c < 18446744073709551616 := by omega
          have hF : num 8 acc (c :: bs.drop (k + 1)) = num 8 (acc * 8 + (c.toNat - 48)) (bs.drop (k + 1)) := by rw [num_on hlt, hval]
          have HN : Hid (a * 8 + ((c.toNat : Int) - 48) = ((acc * 8 + (c.toNat - 48) : Nat) : Int) ∧ acc * 8 + (c.toNat - 48) < 18446744073709551616 ∧ num 8 (acc * 8 + (c.toNat - 48)) (bs.drop (k + 1)) = res) := Lib.hid ⟨by omega, by omega, hF.symm.trans hdec⟩
          have icut : a < 2305843009213693952 := by omega
          have iov : a * 8 + ((c.toNat : Int) - 48) < 18446744073709551616 := by omega
          clear hcut hacc hF hdec ha hval hdk hlt L0 hm
          go_wp2
          refine ⟨⟨k + 1, acc * 8 + (c.toNat - 48), a * 8 + ((c.toNat : Int) - 48), rfl, (by first | rfl | (congr 1; omega)), (by first | rfl | (congr 1; omega)), by omega, HN⟩, by simp [intOf]; omega⟩
      · exact absurd qb (by decide)
    · have hkk : k = t.size := by omega
      subst hkk
      have hF : num 8 acc (bs.drop t.size) = some acc := by rw [List.drop_eq_nil_of_le (by omega)]; rfl
      rw [hF] at hdec
      subst ha
      have V : Aside (res = some acc) := hdec.symm
      clear hacc hF a0 a1 hdec
      go_wp2
      go_ret2
      rw [V.out]
      exact ⟨rfl, HW.out⟩
end Go.Proofs.YtahlkhaehlemcaaGreatDoor.quint8
