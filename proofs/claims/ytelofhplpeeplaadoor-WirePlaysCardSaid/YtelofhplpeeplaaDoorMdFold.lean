/- fold.Lower and fold.Same: a text with small letters. -/
import Derived.Test.YtelofhplpeeplaaDoorMdLower
import Derived.Test.YtelofhplpeeplaaDoorMdCel
import Derived.Lib.ConvBytes
import Derived.Deep.LoopGhost
set_option linter.unusedSimpArgs false
set_option linter.unusedVariables false
namespace Go.Proofs.YtelofhplpeeplaaDoor.media
open Go.RowKit Go.Proofs.YtelofhplpeeplaaDoor.errs Go.Proofs.YtelofhplpeeplaaDoor.rows

def smn (c : Nat) : Nat := if 65 ≤ c ∧ c ≤ 90 then c + 32 else c
theorem smN_get (c : UInt8) : (smB c).toNat = smn c.toNat := by
  have := c.toNat_lt
  unfold smB smn
  by_cases h : 65 ≤ c.toNat ∧ c.toNat ≤ 90
  · rw [if_pos h, if_pos h, UInt8.toNat_ofNat']; omega
  · rw [if_neg h, if_neg h]
theorem bytes_own (s : ByteArray) (hs : s.size ≤ 1000000) (w : World) : ∃ b cap W, Hid ((convert 9 23 (.string s)).run Tryd.prog w = .ok (.slice (some ⟨b, 0, none⟩) s.size cap) W) ∧ Hid (s.size ≤ cap ∧ cap ≤ 9223372036854775807 ∧ w.heap.size ≤ b ∧ (∀ j, j < s.size → Cel W b j (.int .u8 (s.get! j).toNat)) ∧ Below w.heap.size w W) := by
  refine ⟨_, _, _, Lib.run_convert_string_bytes w 9 23 5 s Tryd.underlying9 Tryd.underlying23 Tryd.underlying5, grownCap_ge _ _ _ _, ?_, Nat.le_refl _, fun j hj => ⟨?_, ?_⟩, ?_⟩
  · have := grownCap_le_maxLen w s.size 0 5 (by unfold maxLen; omega)
    unfold maxLen at this
    omega
  · rw [Lib.bytesWorld_cell w _ s j hj]
    congr 3
    have hj' : j < s.data.toList.length := by rw [Array.length_toList]; exact hj
    rw [List.getD_eq_getElem?_getD, List.getElem?_eq_getElem hj']
    show (s.data.toList[j]).toNat = (s.data[j]!).toNat
    rw [getElem!_pos s.data j hj]
    rfl
  · have hsz : s.size ≤ (Lib.bytesCells w 5 s).size := by
      unfold Lib.bytesCells
      rw [Array.size_append, Array.size_map]
      show s.data.size ≤ _
      omega
    unfold World.frozen?
    simp only [Lib.bytesWorld_at_new]
    simp
    omega
  · refine ⟨rfl, rfl, rfl, ?_, fun j hj => Lib.bytesWorld_at_old w _ s j hj⟩
    rw [Lib.bytesWorld_size]
    omega

set_option maxHeartbeats 2000000 in
theorem folded_any (s : ByteArray) (hs : s.size ≤ 1000000) (w : World) :
    Calls Tryd.prog 66 #[.string s] w fun e w' => e = .returned (.string (lowS s)) ∧ Below w.heap.size w w' := by
  obtain ⟨b, cap, W, hcv, hO⟩ := bytes_own s hs w
  have hcv := hcv.out
  have HB : Aside (w.heap.size ≤ b ∧ Below w.heap.size w W) := ⟨hO.out.2.2.1, hO.out.2.2.2.2⟩
  have HC : Aside (∀ j, j < s.size → Cel W b j (.int .u8 (s.get! j).toNat)) := hO.out.2.2.2.1
  have q1 := hO.out.1
  have q2 := hO.out.2.1
  clear hO
  obtain ⟨n, hn⟩ : ∃ n, Hid (s.size = n) := ⟨_, rfl⟩
  rw [hn.out] at hs HC q1 hcv
  go_enter Tryd.func66, Tryd.ntmps66
  go_wp2_with fail
  go_loopg [10] n (fun g t wr => ∃ k : Nat, t = .int .i64 k ∧ g + k = n ∧ Aside (Below w.heap.size w wr ∧ ∀ j, j < n → Cel wr b j (.int .u8 (if j < k then smn (s.get! j).toNat else (s.get! j).toNat : Nat))))
  case atStart => exact ⟨0, rfl, rfl, HB.out.2, fun j hj => by rw [if_neg (Nat.not_lt_zero _)]; exact HC.out j hj⟩
  case round =>
    obtain ⟨k, rfl, hg, hA⟩ := hrel
    by_cases hlt : k < n
    · have y0 : (0 : Int) ≤ (k : Int) := by omega
      have y1 : (k : Int) < (n : Int) := by omega
      obtain ⟨c0, f0⟩ := hA.out.2 k hlt
      rw [if_neg (Nat.lt_irrefl k)] at c0
      obtain ⟨c, hc⟩ : ∃ c, Hid ((s.get! k).toNat = c) := ⟨_, rfl⟩
      rw [hc.out] at c0
      have NX : Aside (∀ w' : World, w' = wr.setCell ⟨b, k, none⟩ (.int .u8 (smn c : Nat)) → Below w.heap.size w w' ∧ ∀ j, j < n → Cel w' b j (.int .u8 (if j < k + 1 then smn (s.get! j).toNat else (s.get! j).toNat : Nat))) := by
        rintro w' rfl
        refine ⟨hA.out.1.setCell (p := ⟨b, k, none⟩) HB.out.1 _, fun j hj => ?_⟩
        by_cases e : j = k
        · subst e
          rw [if_pos (Nat.lt_succ_self j), hc.out]
          exact cel_set (hA.out.2 j hj) _
        · have := hA.out.2 j hj
          by_cases e2 : j < k
          · rw [if_pos (by omega)]
            rw [if_pos e2] at this
            exact cel_far this (off_ne (Ne.symm e)) _
          · rw [if_neg (by omega)]
            rw [if_neg e2] at this
            exact cel_far this (off_ne (Ne.symm e)) _
      have NS : Aside (smn c = c → Below w.heap.size w wr ∧ ∀ j, j < n → Cel wr b j (.int .u8 (if j < k + 1 then smn (s.get! j).toNat else (s.get! j).toNat : Nat))) := fun hs => by
        refine ⟨hA.out.1, fun j hj => ?_⟩
        have := hA.out.2 j hj
        by_cases e : j = k
        · subst e
          rw [if_pos (Nat.lt_succ_self j), hc.out, hs]
          rw [if_neg (Nat.lt_irrefl j), hc.out] at this
          exact this
        · by_cases e2 : j < k
          · rw [if_pos (by omega)]
            rw [if_pos e2] at this
            exact this
          · rw [if_neg (by omega)]
            rw [if_neg e2] at this
            exact this
      have x2 : (0 : Int) ≤ (c : Int) := by omega
      clear hA
      by_cases h1 : 65 ≤ c
      · have x0 : (65 : Int) ≤ (c : Int) := by omega
        by_cases h2 : c ≤ 90
        · have x1 : (c : Int) ≤ 90 := by omega
          have V : Aside (smn c = c + 32) := by unfold Aside; unfold smn; rw [if_pos ⟨h1, h2⟩]
          clear h1 h2
          go_wp2_with fail
          go_roundg (gk - 1)
          case measure => omega
          case rel => exact ⟨k + 1, by go_num, by omega, NX.out _ (by rw [V.out]; rfl)⟩
        · have x1 : ¬ (c : Int) ≤ 90 := by omega
          have V : Aside (smn c = c) := by unfold Aside; unfold smn; rw [if_neg (by omega)]
          clear h1 h2
          go_wp2_with fail
          go_roundg (gk - 1)
          case measure => omega
          case rel => exact ⟨k + 1, by go_num, by omega, NS.out V.out⟩
      · have x0 : ¬ (65 : Int) ≤ (c : Int) := by omega
        have V : Aside (smn c = c) := by unfold Aside; unfold smn; rw [if_neg (by omega)]
        clear h1
        go_wp2_with fail
        go_roundg (gk - 1)
        case measure => omega
        case rel => exact ⟨k + 1, by go_num, by omega, NS.out V.out⟩
    · obtain rfl : k = n := by omega
      have y1 : ¬ (k : Int) < (k : Int) := by omega
      have CV : (convert 23 9 (.slice (some ⟨b, 0, none⟩) k cap)).run Tryd.prog wr = .ok (.string (lowS s)) wr := by
        have e : (s.data.toList.map smB).length = k := by rw [List.length_map, Array.length_toList]; exact hn.out
        have := run_convert_bytes_back (P := Tryd.prog) wr 23 9 5 ⟨b, 0, none⟩ cap (s.data.toList.map smB) Tryd.underlying23 Tryd.underlying5 Tryd.underlying9 (fun j hj => by
          rw [e] at hj
          have := (hA.out.2 j hj).1
          rw [if_pos hj] at this
          rw [show (Addr.add ⟨b, 0, none⟩ j : Addr) = ⟨b, j, none⟩ by simp [Addr.add]; try (intro h; exact h.symm), this, ← smN_get]
          have hj2 : j < s.data.size := by rw [show s.data.size = s.size from rfl, hn.out]; exact hj
          simp [ByteArray.get!, getElem!_pos s.data j hj2])
        rw [e] at this
        exact this
      go_wp2_with fail
      go_ret
      exact ⟨rfl, hA.out.1⟩

theorem lowS_size (s : ByteArray) : (lowS s).size = s.size := by
  show (s.data.toList.map smB).toArray.size = s.data.size
  simp
set_option maxHeartbeats 1000000 in
theorem same_any (a b : ByteArray) (ha : a.size ≤ 1000000) (hb : b.size ≤ 1000000) (w : World) :
    Calls Tryd.prog 52 #[.string a, .string b] w fun e w' => e = .returned (.bool ((lowS a).toList == (lowS b).toList)) ∧ Below w.heap.size w w' := by
  have CA := fun w => folded_any a ha w
  have CB := fun w => folded_any b hb w
  generalize lowS a = x at *
  generalize lowS b = y at *
  go_enter Tryd.func52, Tryd.ntmps52
  go_wp2_with fail
  refine (CA _).mono ?_; rintro e w1 ⟨rfl, k1⟩
  go_wp2_with fail
  refine (CB _).mono ?_; rintro e w2 ⟨rfl, k2⟩
  go_wp2_with fail
  go_ret
  exact ⟨rfl, k1.trans (k2.mono k1.size)⟩
end Go.Proofs.YtelofhplpeeplaaDoor.media
