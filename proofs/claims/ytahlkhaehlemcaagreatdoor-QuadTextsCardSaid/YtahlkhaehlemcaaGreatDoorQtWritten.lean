/- The document's own digits of a byte. -/
import Derived.Test.YtahlkhaehlemcaaGreatDoorQtMath
import Derived.Laws.Strings2
import Derived.Deep.LoopGhost
import Derived.Lib.Hide
import Derived.Deep.QuietTactic
import Derived.BigQuiet
set_option linter.unusedSimpArgs false
set_option linter.unusedVariables false
namespace Go.Proofs.YtahlkhaehlemcaaGreatDoor.qtext
open Go.RowKit Go.Proofs.YtahlkhaehlemcaaGreatDoor.errs Go.Proofs.YtahlkhaehlemcaaGreatDoor.rq

def sixteen : ByteArray := ⟨#[48, 49, 50, 51, 52, 53, 54, 55, 56, 57, 65, 66, 67, 68, 69, 70]⟩
theorem piece_fin : ∀ k : Fin 10, sixteen.extract k.1 (k.1 + 1) = ⟨#[UInt8.ofNat (48 + k.1)]⟩ := by decide
theorem piece (k : Nat) (h : k < 10) : sixteen.extract k (k + 1) = ⟨#[UInt8.ofNat (48 + k)]⟩ := piece_fin ⟨k, h⟩
/-- What is left to be written, and what is. -/
def Left (n m : Nat) (t : ByteArray) : Prop := Lib.decDigits m ++ t.data.toList = Lib.decDigits n ∧ m < 256 ∧ t.size ≤ 3 - (Lib.decDigits m).length
theorem cat_list1 (c : UInt8) (t : ByteArray) : (⟨#[c]⟩ ++ t : ByteArray).data.toList = c :: t.data.toList := by
  rw [ByteArray.data_append, Array.toList_append]
  rfl
theorem left_step {n m : Nat} {t : ByteArray} (h : Left n m t) (hm : ¬ m < 10) : Left n (m / 10) (⟨#[UInt8.ofNat (48 + m % 10)]⟩ ++ t) := by
  obtain ⟨h1, h2, h3⟩ := h
  have e : Lib.decDigits m = Lib.decDigits (m / 10) ++ [UInt8.ofNat (48 + m % 10)] := by rw [Lib.decDigits, dif_neg hm]
  refine ⟨?_, by omega, ?_⟩
  · rw [cat_list1, ← h1, e, List.append_assoc]
    rfl
  · rw [e, List.length_append] at h3
    rw [ByteArray.size_append, show (⟨#[UInt8.ofNat (48 + m % 10)]⟩ : ByteArray).size = 1 from rfl]
    have := (part_facts (n := m) h2).2.2.1
    rw [← dec_d3 h2, e, List.length_append] at this
    simp only [List.length_cons, List.length_nil] at h3 this
    omega
theorem left_last {n m : Nat} {t : ByteArray} (h : Left n m t) (hn : n < 256) (hm : m < 10) : ⟨#[UInt8.ofNat (48 + m % 10)]⟩ ++ t = part n := by
  obtain ⟨h1, h2, h3⟩ := h
  apply list_ext
  rw [cat_list1, part_list, ← dec_d3 hn, ← h1, Lib.decDigits_one hm, Nat.mod_eq_of_lt hm]
  rfl

theorem below_drewN (w : World) (n : Nat) : Below w.heap.size w (w.drewN n) := ⟨rfl, rfl, rfl, Nat.le_refl _, fun _ _ => rfl⟩

set_option maxRecDepth 100000 in
set_option maxHeartbeats 4000000 in
theorem written_any (n : Nat) (hn : n < 256) (w : World) :
    Calls Tryz.prog 36 #[.int .u64 n, .int .u64 10, .int .i64 1] w fun e w' => e = .returned (.string (part n)) ∧ Below w.heap.size w w' := by
  go_enter Tryz.func36, Tryz.ntmps36
  go_wp2_with fail
  go_loopg [0, 8] n (fun g v0 v1 wr => ∃ (m : Nat) (mi : Int) (t : ByteArray), v0 = .int .u64 mi ∧ v1 = .string t ∧ g = m ∧ Hid (mi = (m : Int) ∧ Left n m t) ∧ Keeps w wr)
  case atStart => exact ⟨n, _, _, rfl, rfl, rfl, ⟨rfl, by simp, hn, by show 0 ≤ _; exact Nat.zero_le _⟩, Keeps.refl _⟩
  case round =>
    obtain ⟨m, mi, t, rfl, rfl, hg, hh, hK⟩ := hrel
    have K : Aside (Keeps w wr) := hK
    clear hK
    obtain ⟨k, hk⟩ : ∃ k, Hid (k = m % 10) := ⟨_, rfl⟩
    obtain ⟨ki, hki⟩ : ∃ ki, mi % 10 = ki := ⟨_, rfl⟩
    have hke : Hid (ki = (k : Int)) := by have := hh.out.1; have := hk.out; show _ = _; omega
    have hk10 : k < 10 := by have := hk.out; omega
    have hp := piece k hk10
    obtain ⟨c, hcc⟩ : ∃ c, Hid (UInt8.ofNat (48 + k) = c) := ⟨_, rfl⟩
    rw [hcc.out] at hp
    have hsl : ∀ W, (Instr.slice 9 (.string ⟨#[48, 49, 50, 51, 52, 53, 54, 55, 56, 57, 65, 66, 67, 68, 69, 70]⟩) (some (.int .u64 ki)) (some (.int .u64 (ki + 1))) none).run Tryz.prog W = .ok (.string ⟨#[c]⟩) W := fun W => by
      have h16 : ((sixteen.size : Nat) : Int) = 16 := by decide
      have e0 : ki.toNat = k := by have := hke.out; omega
      have e1 : (ki + 1).toNat = k + 1 := by have := hke.out; omega
      have := run_slice_string (P := Tryz.prog) W 9 sixteen .u64 .u64 ki (ki + 1) Tryz.underlying9 (by have := hke.out; omega) (by omega) (by have := hke.out; rw [h16]; omega)
      rw [e0, e1, hp] at this
      exact this
    have hsz : t.size ≤ 3 := by have := hh.out.2.2.2; omega
    have y0 : 0 ≤ mi := by have := hh.out.1; omega
    have y1 : mi < 256 := by have := hh.out.1; have := hh.out.2.2.1; omega
    have y2 : 0 ≤ ki := by have := hke.out; omega
    have y3 : ki < 10 := by have := hke.out; omega
    obtain ⟨t2, ht2⟩ : ∃ t2, (⟨#[c]⟩ ++ t : ByteArray) = t2 := ⟨_, rfl⟩
    have hc : Hid (m / 10 < gk ∨ m < 10) := by show _ ∨ _; omega
    clear hp hk10 hg
    by_cases hlast : m < 10
    · have z0 : mi / 10 = 0 := by have := hh.out.1; omega
      have V : Aside (t2 = part n) := by
        have h := left_last hh.out.2 hn hlast
        rw [← hk.out, hcc.out] at h
        show t2 = _
        rw [← ht2]
        exact h
      have hs2 : Hid (t2.size = 1 ∨ 1 ≤ t2.size) := by show _ ∨ _; rw [← ht2, ByteArray.size_append]; right; have : (⟨#[c]⟩ : ByteArray).size = 1 := rfl; omega
      have z1 : 1 ≤ (t2.size : Int) := by have := hs2.out; omega
      clear hlast hh hk hke hc hs2 hn hcc
      go_wp2_with fail
      go_quiet (fail)
      go_wp2_with fail
      go_loopg [8] 0 (fun g v wr => ∃ t3 : ByteArray, v = .string t3 ∧ t2 = t3 ∧ Keeps w wr)
      case atStart => exact ⟨t2, rfl, rfl, K.out.step (below_drewN _ _)⟩
      case round =>
        obtain ⟨t3, rfl, rfl, hK⟩ := hrel
        have K2 : Aside (Keeps w wr) := hK
        clear hK
        go_wp2_with fail
        go_ret
        exact ⟨by rw [V.out]; rfl, K2.out⟩
    · have z0 : (mi / 10 == 0) = false := beq_eq_false_iff_ne.2 (by have := hh.out.1; omega)
      have N : Hid (mi / 10 = ((m / 10 : Nat) : Int) ∧ Left n (m / 10) t2) := by
        have h := left_step hh.out.2 hlast
        rw [← hk.out, hcc.out] at h
        refine ⟨by have := hh.out.1; omega, ?_⟩
        rw [← ht2]
        exact h
      have hm : Hid (m / 10 < gk) := by rcases hc.out with h | h; exact h; exact absurd h hlast
      clear hlast hh hk hke hc hn hcc
      go_wp2_with fail
      go_quiet (fail)
      go_wp2_with fail
      go_roundg (m / 10)
      case measure => exact hm.out
      case rel => exact ⟨m / 10, _, _, rfl, rfl, rfl, N, K.out.step (below_drewN _ _)⟩
end Go.Proofs.YtahlkhaehlemcaaGreatDoor.qtext
