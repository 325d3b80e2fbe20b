/- The document's text between marks. -/
import Derived.Test.YtelofhplpeeplaaDoorMdRef
import Derived.Laws.DeepStrings4
set_option linter.unusedSimpArgs false
set_option linter.unusedVariables false
namespace Go.Proofs.YtelofhplpeeplaaDoor.media
open Go.RowKit Go.Proofs.YtelofhplpeeplaaDoor.errs Go.Proofs.YtelofhplpeeplaaDoor.gmath Go.Proofs.YtelofhplpeeplaaDoor.glref

theorem unq_end (acc : List UInt8) {s : ByteArray} {k : Nat} (h : s.size ≤ k) : unq acc (s.data.toList.drop k) = none := by
  rw [bytes_end h]; unfold unq; rfl
theorem unq_step (acc : List UInt8) {s : ByteArray} {k : Nat} (h : k < s.size) : unq acc (s.data.toList.drop k) =
    if s.get! k = 34 then some (acc, s.data.toList.drop (k + 1)) else if s.get! k = 92 then (if k + 1 < s.size then unq (acc ++ [s.get! (k + 1)]) (s.data.toList.drop (k + 2)) else none)
    else unq (acc ++ [s.get! k]) (s.data.toList.drop (k + 1)) := by
  rw [bytes_drop h]
  conv => lhs; unfold unq
  by_cases h2 : k + 1 < s.size
  · rw [if_pos h2, bytes_drop h2]
  · rw [if_neg h2, bytes_end (show s.size ≤ k + 1 by omega)]
theorem one_byte {s : ByteArray} {i : Nat} (h : i < s.size) : s.extract i (i + 1) = ⟨#[s.get! i]⟩ := by
  apply ByteArray.ext
  apply Array.toList_inj.1
  rw [cut_list, bytes_drop h, Nat.add_sub_cancel_left]
  rfl
/-- What a text between marks stands for, and the place behind it. -/
def quRes (n : Nat) : Option (List UInt8 × List UInt8) → ByteArray × Int
  | none => (⟨#[]⟩, -1)
  | some (v, r) => (⟨v.toArray⟩, (n : Int) - (r.length : Int))
def quOf (s : ByteArray) (i : Nat) : ByteArray × Int := quRes s.size (unq [] (s.data.toList.drop (i + 1)))

set_option maxRecDepth 100000 in
set_option maxHeartbeats 1000000 in
theorem rquoted_any (s : ByteArray) (i : Nat) (hs : s.size ≤ 1000000) (hi : i < s.size) (w : World) :
    Calls Tryd.prog 69 #[.string s, .int .i64 i] w fun e w' => e = .returned (.tuple #[.string (quOf s i).1, .int .i64 (quOf s i).2]) ∧ w = w' := by
  unfold quOf
  obtain ⟨u, hu⟩ : ∃ u, Hid (unq [] (s.data.toList.drop (i + 1)) = u) := ⟨_, rfl⟩
  rw [hu.out]
  obtain ⟨v, hv⟩ : ∃ v, Hid ((quRes s.size u).1 = v) := ⟨_, rfl⟩
  obtain ⟨to', ht⟩ : ∃ t, Hid ((quRes s.size u).2 = t) := ⟨_, rfl⟩
  rw [hv.out, ht.out]
  have hi' : (i : Int) ≤ 1000000 := by omega
  go_enter Tryd.func69, Tryd.ntmps69
  go_wp2_with fail
  go_loopg [6, 7] (s.size - (i + 1)) (fun g a b wr => ∃ (k : Nat) (o : ByteArray), a = .string o ∧ b = .int .i64 k ∧ k + g = s.size ∧ o.size ≤ k ∧ Hid (unq o.data.toList (s.data.toList.drop k) = u) ∧ w = wr)
  case atStart => exact ⟨i + 1, ⟨#[]⟩, rfl, by go_num, by omega, Nat.zero_le _, hu, rfl⟩
  case round =>
    clear hu
    obtain ⟨k, o, rfl, rfl, hg, ho, hd, rfl⟩ := hrel
    have y1 : (0 : Int) ≤ (k : Int) := by omega
    by_cases hlt : k < s.size
    · have y0 : (k : Int) < (s.size : Int) := by omega
      have y2 : (k : Int) + 1 ≤ (s.size : Int) := by omega
      have w3 : ((k : Int) + 1).toNat = k + 1 := by omega
      have ix := byte_at s k hlt
      have hd := hd.out
      rw [unq_step _ hlt] at hd
      have b1 := eq_byte (s.get! k) 34
      have b2 := eq_byte (s.get! k) 92
      simp only [show ((34 : UInt8).toNat : Int) = 34 from rfl, show ((92 : UInt8).toNat : Int) = 92 from rfl] at b1 b2
      by_cases e1 : s.get! k = 34
      · rw [decide_eq_true e1] at b1
        rw [if_pos e1] at hd
        have V : Aside (v = o ∧ to' = (k : Int) + 1) := by
          show _ ∧ _
          rw [← hv.out, ← ht.out, ← hd]
          refine ⟨?_, ?_⟩
          · show (⟨o.data.toList.toArray⟩ : ByteArray) = o
            rw [Array.toArray_toList]
          · show (s.size : Int) - ((s.data.toList.drop (k + 1)).length : Int) = _
            rw [List.length_drop, Array.length_toList, show s.data.size = s.size from rfl]
            omega
        clear hd b2 e1
        generalize s.get! k = d at *
        go_wp2_with fail
        go_ret2
        exact ⟨by rw [V.out.1, V.out.2]; rfl, rfl⟩
      · rw [decide_eq_false e1] at b1
        rw [if_neg e1] at hd
        by_cases e2 : s.get! k = 92
        · rw [decide_eq_true e2] at b2
          rw [if_pos e2] at hd
          by_cases h2 : k + 1 < s.size
          · rw [if_pos h2] at hd
            have x0 : (k : Int) + 1 < (s.size : Int) := by omega
            have x1 : ((k : Int) + 1 == (s.size : Int)) = false := beq_eq_false_iff_ne.2 (by omega)
            have x2 : (k : Int) + 1 + 1 ≤ (s.size : Int) := by omega
            have w4 : ((k : Int) + 1 + 1).toNat = k + 2 := by omega
            have ob := one_byte h2
            have hz : ¬ 9223372036854775807 < o.size + (s.extract (k + 1) (k + 2)).size := by rw [ByteArray.size_extract]; omega
            have V : Hid ((o ++ s.extract (k + 1) (k + 2)).size ≤ k + 2 ∧ unq (o ++ s.extract (k + 1) (k + 2)).data.toList (s.data.toList.drop (k + 2)) = u) := by
              refine ⟨?_, ?_⟩
              · rw [ByteArray.size_append, ByteArray.size_extract]; omega
              · rw [ob, ByteArray.data_append, Array.toList_append]; exact hd
            have sl : ∀ w, (Instr.slice 9 (.string s) (some (.int .i64 ((k : Int) + 1))) (some (.int .i64 ((k : Int) + 1 + 1))) none).run Tryd.prog w = .ok (.string (s.extract (k + 1) (k + 2))) w := fun w => by
              rw [run_slice_string_if (h := Tryd.underlying9), if_pos (by omega), if_pos (by omega), w3, w4]
            have hg2 : Hid (k + 2 + (gk - 2) = s.size ∧ gk - 2 < gk) := by refine ⟨?_, ?_⟩ <;> omega
            clear hd e1 e2 ob
            generalize s.get! k = d at *
            go_wp2_with fail
            go_roundg (gk - 2)
            case measure => exact hg2.out.2
            case rel => exact ⟨k + 2, _, rfl, by go_num, hg2.out.1, V.out.1, V.out.2, rfl⟩
          · rw [if_neg h2] at hd
            have x1 : ((k : Int) + 1 == (s.size : Int)) = true := beq_iff_eq.2 (by omega)
            have V : Aside (v = ⟨#[]⟩ ∧ to' = -1) := by
              show _ ∧ _
              rw [← hv.out, ← ht.out, ← hd]
              exact ⟨rfl, rfl⟩
            clear hd e1 e2
            generalize s.get! k = d at *
            go_wp2_with fail
            go_ret2
            exact ⟨by rw [V.out.1, V.out.2]; rfl, rfl⟩
        · rw [decide_eq_false e2] at b2
          rw [if_neg e2] at hd
          have ob := one_byte hlt
          have hz : ¬ 9223372036854775807 < o.size + (s.extract k (k + 1)).size := by rw [ByteArray.size_extract]; omega
          have V : Hid ((o ++ s.extract k (k + 1)).size ≤ k + 1 ∧ unq (o ++ s.extract k (k + 1)).data.toList (s.data.toList.drop (k + 1)) = u) := by
            refine ⟨?_, ?_⟩
            · rw [ByteArray.size_append, ByteArray.size_extract]; omega
            · rw [ob, ByteArray.data_append, Array.toList_append]; exact hd
          have sl : ∀ w, (Instr.slice 9 (.string s) (some (.int .i64 k)) (some (.int .i64 ((k : Int) + 1))) none).run Tryd.prog w = .ok (.string (s.extract k (k + 1))) w := fun w => by
            rw [run_slice_string_if (h := Tryd.underlying9), if_pos (by omega), if_pos (by omega), w3]
            rfl
          have hg2 : Hid (k + 1 + (gk - 1) = s.size ∧ gk - 1 < gk) := by refine ⟨?_, ?_⟩ <;> omega
          clear hd e1 e2 ob
          generalize s.get! k = d at *
          go_wp2_with fail
          go_roundg (gk - 1)
          case measure => exact hg2.out.2
          case rel => exact ⟨k + 1, _, rfl, by go_num, hg2.out.1, V.out.1, V.out.2, rfl⟩
    · have y0 : ¬ (k : Int) < (s.size : Int) := by omega
      have hd := hd.out
      rw [unq_end _ (by omega)] at hd
      have V : Aside (v = ⟨#[]⟩ ∧ to' = -1) := by
        show _ ∧ _
        rw [← hv.out, ← ht.out, ← hd]
        exact ⟨rfl, rfl⟩
      clear hd
      go_wp2_with fail
      go_ret2
      exact ⟨by rw [V.out.1, V.out.2]; rfl, rfl⟩
end Go.Proofs.YtelofhplpeeplaaDoor.media
