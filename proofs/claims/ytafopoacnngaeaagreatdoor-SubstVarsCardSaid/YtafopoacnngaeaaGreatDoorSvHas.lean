/- Does a byte stand in a text: the document's own test, and strings.Contains at a text of one byte. -/
import Derived.Test.YtafopoacnngaeaaGreatDoorSvMath
set_option linter.unusedSimpArgs false
set_option linter.unusedVariables false
namespace Go.Proofs.YtafopoacnngaeaaGreatDoor.subst
open Go.RowKit Go.Proofs.YtafopoacnngaeaaGreatDoor.errs Go.Proofs.YtafopoacnngaeaaGreatDoor.rows Go.Proofs.YtafopoacnngaeaaGreatDoor.utf Go.Proofs.YtafopoacnngaeaaGreatDoor.glref Go.Proofs.YtafopoacnngaeaaGreatDoor.gmath Go.Proofs.YtafopoacnngaeaaGreatDoor.chars Go.Proofs.YtafopoacnngaeaaGreatDoor.marks

theorem bytes_drop {s : ByteArray} {i : Nat} (h : i < s.size) : s.data.toList.drop i = s.get! i :: s.data.toList.drop (i + 1) := by
  have h' : i < s.data.toList.length := by rw [Array.length_toList]; exact h
  rw [List.drop_eq_getElem_cons h']
  congr 1
  have h2 : i < s.data.size := h
  show s.data.toList[i] = s.data[i]!
  rw [getElem!_pos s.data i h2, Array.getElem_toList]
theorem bytes_end {s : ByteArray} {i : Nat} (h : s.size ≤ i) : s.data.toList.drop i = [] := List.drop_eq_nil_of_le (by rw [Array.length_toList]; exact h)
theorem eq_byte (a c : UInt8) : ((a.toNat : Int) == (c.toNat : Int)) = decide (a = c) := by
  by_cases e : a = c
  · rw [decide_eq_true e, e]; exact beq_iff_eq.2 rfl
  · rw [decide_eq_false e]
    exact beq_eq_false_iff_ne.2 fun q => e (UInt8.toNat_inj.1 (by omega))

set_option maxRecDepth 100000 in
set_option maxHeartbeats 4000000 in
/-- Does a byte stand in a text? -/
theorem rhas_any (s : ByteArray) (c : UInt8) (hs : s.size ≤ 1000000) (w : World) :
    Calls Tryz.prog 37 #[.string s, .int .u8 c.toNat] w fun e w' => e = .returned (.bool (s.data.toList.contains c)) ∧ w = w' := by
  obtain ⟨res, hres⟩ : ∃ res, Hid (s.data.toList.contains c = res) := ⟨_, rfl⟩
  rw [hres.out]
  obtain ⟨ci, hci⟩ : ∃ ci, Hid ((c.toNat : Int) = ci) := ⟨_, rfl⟩
  rw [hci.out]
  go_enter Tryz.func37, Tryz.ntmps37
  go_wp2_with fail
  go_loopg [5] s.size (fun g v wr => ∃ i : Nat, v = .int .i64 i ∧ g + i = s.size ∧ Hid ((s.data.toList.drop i).contains c = res) ∧ w = wr)
  case atStart => exact ⟨0, rfl, by omega, hres, rfl⟩
  case round =>
    clear hres
    obtain ⟨i, rfl, hg, hd, rfl⟩ := hrel
    by_cases hlt : i < s.size
    · obtain ⟨g, rfl⟩ : ∃ g, gk = g + 1 := ⟨gk - 1, by omega⟩
      have y0 : (i : Int) < (s.size : Int) := by omega
      have y1 : (0 : Int) ≤ (i : Int) := by omega
      have ix := index_at s i hlt
      have be := eq_byte (s.get! i) c
      rw [hci.out] at be
      have hd := hd.out
      rw [bytes_drop hlt] at hd
      by_cases e : s.get! i = c
      · rw [decide_eq_true e] at be
        have V : Aside (res = true) := by rw [← hd, e]; exact (List.contains_cons ..).trans (by rw [beq_self_eq_true, Bool.true_or])
        clear hd e
        generalize s.get! i = d at *
        go_wp2_with fail
        go_ret
        rw [V.out]
        exact ⟨rfl, rfl⟩
      · rw [decide_eq_false e] at be
        have V : Hid ((s.data.toList.drop (i + 1)).contains c = res) := by
          rw [List.contains_cons, show (c == s.get! i) = false from beq_eq_false_iff_ne.2 (fun q => e q.symm), Bool.false_or] at hd
          exact hd
        clear hd e
        generalize s.get! i = d at *
        go_wp2_with fail
        go_roundg g
        case measure => omega
        case rel => exact ⟨i + 1, rfl, by omega, V, rfl⟩
    · have y0 : ¬ (i : Int) < (s.size : Int) := by omega
      have V : Aside (res = false) := by
        have hd := hd.out
        rw [bytes_end (by omega)] at hd
        exact hd.symm
      clear hd
      go_wp2_with fail
      go_ret
      rw [V.out]
      exact ⟨rfl, rfl⟩

theorem indexByte_has : ∀ (l : List UInt8) (c : UInt8), -1 ≤ Lib.indexByte l c ∧ decide (0 ≤ Lib.indexByte l c) = l.contains c
  | [], _ => ⟨Int.le_refl (-1), rfl⟩
  | b :: l, c => by
    obtain ⟨h1, h2⟩ := indexByte_has l c
    unfold Lib.indexByte
    rw [List.contains_cons, ← h2]
    by_cases e : b = c
    · subst e
      rw [if_pos (beq_self_eq_true b), beq_self_eq_true, Bool.true_or]
      exact ⟨by decide, by decide⟩
    · rw [if_neg (by rw [beq_iff_eq]; exact e), show (c == b) = false from beq_eq_false_iff_ne.2 (fun q => e q.symm), Bool.false_or]
      by_cases q : Lib.indexByte l c = -1
      · rw [if_pos (beq_iff_eq.2 q), q]
        exact ⟨by decide, rfl⟩
      · rw [if_neg (by rw [beq_iff_eq]; exact q)]
        exact ⟨by omega, decide_eq_decide.2 (by omega)⟩
theorem contains_byte (l : List UInt8) (c : UInt8) : Lib.contains l [c] = l.contains c := by
  unfold Lib.contains
  rw [Lib.index_one, (indexByte_has l c).2]
/-- Has a text a dollar? -/
theorem dollar_any (s : ByteArray) (hs : s.size ≤ 1000000) (w : World) (hm : MaxL w) :
    Calls Tryz.prog 39 #[.string s, .string ⟨#[36]⟩] w fun e w' => e = .returned (.bool (s.data.toList.contains 36)) ∧ w' = w := by
  obtain ⟨m, hm⟩ := hm
  have := Tryz.strings_Contains s ⟨#[36]⟩ m w (by omega) hm
  rwa [show Lib.contains s.data.toList (⟨#[36]⟩ : ByteArray).data.toList = s.data.toList.contains 36 from contains_byte _ 36] at this
end Go.Proofs.YtafopoacnngaeaaGreatDoor.subst
