/- fold.Lower: a text with small letters; its characters are the text's, made small one by one. -/
import Derived.Test.YtoilalffhmjhdaaGreatDoorGlConv
import Derived.Test.YtoilalffhmjhdaaGreatDoorSbMath
import Derived.Test.YtoilalffhmjhdaaGreatDoorGlRow
import Derived.Test.YtoilalffhmjhdaaGreatDoorChars
import Derived.Deep.LoopGhost
set_option linter.unusedSimpArgs false
set_option linter.unusedVariables false
namespace Go.Proofs.YtoilalffhmjhdaaGreatDoor.lower
open Go.RowKit Go.Proofs.YtoilalffhmjhdaaGreatDoor.errs Go.Proofs.YtoilalffhmjhdaaGreatDoor.utf Go.Proofs.YtoilalffhmjhdaaGreatDoor.chars Go.Proofs.YtoilalffhmjhdaaGreatDoor.gmath Go.Proofs.YtoilalffhmjhdaaGreatDoor.glref Go.Proofs.YtoilalffhmjhdaaGreatDoor.rows

def smn (c : Nat) : Nat := if 65 ≤ c ∧ c ≤ 90 then c + 32 else c
theorem smn_on (c : Nat) : (smn c / 64 = 2) = (c / 64 = 2) := by unfold smn; apply propext; split <;> omega
theorem smn_same (c : Nat) (h : c / 64 = 2) : smn c = c := by unfold smn; rw [if_neg (by omega)]
theorem smn_big (c : Nat) (h : ¬ c < 128) : smn c = c := by unfold smn; rw [if_neg (by omega)]
theorem smn_lt (c : Nat) : (smn c < 128) = (c < 128) := by unfold smn; apply propext; split <;> omega
theorem decodeN_lo (m b0 b1 b2 b3 : Nat) :
    Lib.decodeN m (smn b0) (smn b1) (smn b2) (smn b3) = (smn (Lib.decodeN m b0 b1 b2 b3).1, (Lib.decodeN m b0 b1 b2 b3).2) := by
  unfold Lib.decodeN
  by_cases c1 : b0 < 128
  · rw [if_pos c1, if_pos (by rw [smn_lt]; exact c1)]
  · rw [if_neg c1, if_neg (by rw [smn_lt]; exact c1), smn_big b0 c1]
    by_cases c2 : b0 / 32 = 6 ∧ (1 < m ∧ b1 / 64 = 2)
    · rw [if_pos c2, if_pos (by rw [smn_on]; exact c2), smn_same b1 c2.2.2]
      split
      · rw [smn_big _ (by omega)]
      · rfl
    · rw [if_neg c2, if_neg (by rw [smn_on]; exact c2)]
      by_cases c3 : b0 / 16 = 14 ∧ (1 < m ∧ b1 / 64 = 2) ∧ (2 < m ∧ b2 / 64 = 2)
      · rw [if_pos c3, if_pos (by rw [smn_on, smn_on]; exact c3), smn_same b1 c3.2.1.2, smn_same b2 c3.2.2.2]
        split
        · rw [smn_big _ (by omega)]
        · rfl
      · rw [if_neg c3, if_neg (by rw [smn_on, smn_on]; exact c3)]
        by_cases c4 : b0 / 8 = 30 ∧ (1 < m ∧ b1 / 64 = 2) ∧ (2 < m ∧ b2 / 64 = 2) ∧ (3 < m ∧ b3 / 64 = 2)
        · rw [if_pos c4, if_pos (by rw [smn_on, smn_on, smn_on]; exact c4), smn_same b1 c4.2.1.2, smn_same b2 c4.2.2.1.2, smn_same b3 c4.2.2.2.2]
          split
          · rw [smn_big _ (by omega)]
          · rfl
        · rw [if_neg c4, if_neg (by rw [smn_on, smn_on, smn_on]; exact c4)]
          rfl

def sm (c : UInt8) : UInt8 := UInt8.ofNat (smn c.toNat)
theorem sm_nat (c : UInt8) : (sm c).toNat = smn c.toNat := by
  have := c.toNat_lt
  unfold sm smn
  rw [UInt8.toNat_ofNat']
  split <;> omega
/-- A text with small letters. -/
def lo (s : ByteArray) : ByteArray := ⟨s.data.map sm⟩
theorem lo_size (s : ByteArray) : (lo s).size = s.size := by
  show (s.data.map sm).size = s.data.size
  exact Array.size_map
theorem get_out (s : ByteArray) (i : Nat) (h : ¬ i < s.size) : (s.get! i).toNat = 0 := by
  have h' : ¬ i < s.data.size := h
  show (s.data[i]!).toNat = 0
  rw [getElem!_neg s.data i h']
  rfl
theorem lo_get (s : ByteArray) (i : Nat) : ((lo s).get! i).toNat = smn (s.get! i).toNat := by
  by_cases h : i < s.size
  · have h' : i < s.data.size := h
    rw [← sm_nat]
    show ((s.data.map sm)[i]!).toNat = (sm (s.data[i]!)).toNat
    rw [getElem!_pos (s.data.map sm) i (by rw [Array.size_map]; exact h'), getElem!_pos s.data i h', Array.getElem_map]
  · rw [get_out s i h, get_out (lo s) i (by rw [lo_size]; exact h)]
    rfl
theorem decode_lo (s : ByteArray) (i : Nat) : Utf8.decode (lo s) i = (smn (Utf8.decode s i).1, (Utf8.decode s i).2) := by
  rw [Lib.decode_at, Lib.decode_at, lo_size, lo_get, lo_get, lo_get, lo_get, decodeN_lo]
theorem small_cast (n : Nat) : small (n : Int) = (smn n : Nat) := by
  unfold small smn
  split
  · rw [if_pos (by omega)]; rfl
  · rw [if_neg (by omega)]
theorem from_lo (s : ByteArray) : ∀ (g i : Nat), from_ (lo s) g i = (from_ s g i).map small
  | 0, _ => rfl
  | g + 1, i => by
    by_cases h : i < s.size
    · rw [from_step s g i h, from_step (lo s) g i (by rw [lo_size]; exact h), decode_lo, from_lo s g, List.map_cons, small_cast]
    · rw [from_end s _ i (by omega), from_end (lo s) _ i (by rw [lo_size]; omega)]; rfl
theorem all_lo (s : ByteArray) : all (lo s) = (all s).map small := by unfold all; rw [lo_size, from_lo]
theorem char_lo (s : ByteArray) (i : Nat) : charAt (lo s) i = charAt s i := by
  unfold charAt
  rw [decode_lo]
  have : (smn (Utf8.decode s i).1 == 65533) = ((Utf8.decode s i).1 == 65533) := by
    rw [Bool.eq_iff_iff, beq_iff_eq, beq_iff_eq]
    unfold smn
    split <;> omega
  rw [this]
theorem scan_lo (s : ByteArray) : ∀ (g i : Nat), scan (lo s) g i = scan s g i
  | 0, _ => rfl
  | g + 1, i => by
    unfold scan
    rw [lo_size, char_lo, decode_lo, scan_lo s g]
theorem bad_lo (s : ByteArray) : firstBad (lo s) = firstBad s := by unfold firstBad; rw [lo_size, scan_lo]

theorem bytes_own (s : ByteArray) (hs : s.size ≤ 1000000) (w : World) : ∃ b cap W, Hid ((convert 9 74 (.string s)).run Tryz.prog w = .ok (.slice (some ⟨b, 0, none⟩) s.size cap) W) ∧ Hid (s.size ≤ cap ∧ cap ≤ 9223372036854775807 ∧ w.heap.size ≤ b ∧ (∀ j, j < s.size → Cel W b j (.int .u8 (s.get! j).toNat)) ∧ Below w.heap.size w W) := by
  refine ⟨_, _, _, Lib.run_convert_string_bytes w 9 74 5 s Tryz.underlying9 Tryz.underlying74 Tryz.underlying5, grownCap_ge _ _ _ _, ?_, Nat.le_refl _, fun j hj => ⟨?_, ?_⟩, ?_⟩
  · have := grownCap_le_maxLen w s.size 0 5 (by unfold maxLen; omega)
    unfold maxLen at this
    omega
  · rw [Lib.bytesWorld_cell w _ s j hj]
    congr 3
    have hj' : j < s.data.toList.length := by rw [Array.length_toList]; exact hj
    rw [List.getD_eq_getElem?_getD, List.getElem?_eq_getElem hj']
    show (s.data.toList[j]).toNat = (s.data[j]!).toNat
    rw [getElem!_pos s.data j hj]
    rfl
  · have hsz : s.size ≤ (Lib.bytesCells w 5 s).size := by
      unfold Lib.bytesCells
      rw [Array.size_append, Array.size_map]
      show s.data.size ≤ _
      omega
    unfold World.frozen?
    simp only [Lib.bytesWorld_at_new]
    simp
    omega
  · refine ⟨rfl, rfl, rfl, ?_, fun j hj => Lib.bytesWorld_at_old w _ s j hj⟩
    rw [Lib.bytesWorld_size]
    omega

set_option maxHeartbeats 2000000 in
theorem lower_any (s : ByteArray) (hs : s.size ≤ 1000000) (w : World) :
    Calls Tryz.prog 76 #[.string s] w fun e w' => e = .returned (.string (lo s)) ∧ Below w.heap.size w w' := by
  obtain ⟨b, cap, W, hcv, hO⟩ := bytes_own s hs w
  have hcv := hcv.out
  have HB : Aside (w.heap.size ≤ b ∧ Below w.heap.size w W) := ⟨hO.out.2.2.1, hO.out.2.2.2.2⟩
  have HC : Aside (∀ j, j < s.size → Cel W b j (.int .u8 (s.get! j).toNat)) := hO.out.2.2.2.1
  have q1 := hO.out.1
  have q2 := hO.out.2.1
  clear hO
  obtain ⟨n, hn⟩ : ∃ n, Hid (s.size = n) := ⟨_, rfl⟩
  rw [hn.out] at hs HC q1 hcv
  go_enter Tryz.func76, Tryz.ntmps76
  go_wp2_with fail
  go_loopg [10] n (fun g t wr => ∃ k : Nat, t = .int .i64 k ∧ g + k = n ∧ Aside (Below w.heap.size w wr ∧ ∀ j, j < n → Cel wr b j (.int .u8 (if j < k then smn (s.get! j).toNat else (s.get! j).toNat : Nat))))
  case atStart => exact ⟨0, rfl, rfl, HB.out.2, fun j hj => by rw [if_neg (Nat.not_lt_zero _)]; exact HC.out j hj⟩
  case round =>
    obtain ⟨k, rfl, hg, hA⟩ := hrel
    by_cases hlt : k < n
    · have y0 : (0 : Int) ≤ (k : Int) := by omega
      have y1 : (k : Int) < (n : Int) := by omega
      obtain ⟨c0, f0⟩ := hA.out.2 k hlt
      rw [if_neg (Nat.lt_irrefl k)] at c0
      obtain ⟨c, hc⟩ : ∃ c, Hid ((s.get! k).toNat = c) := ⟨_, rfl⟩
      rw [hc.out] at c0
      have NX : Aside (∀ w' : World, w' = wr.setCell ⟨b, k, none⟩ (.int .u8 (smn c : Nat)) → Below w.heap.size w w' ∧ ∀ j, j < n → Cel w' b j (.int .u8 (if j < k + 1 then smn (s.get! j).toNat else (s.get! j).toNat : Nat))) := by
        rintro w' rfl
        refine ⟨hA.out.1.setCell (p := ⟨b, k, none⟩) HB.out.1 _, fun j hj => ?_⟩
        by_cases e : j = k
        · subst e
          rw [if_pos (Nat.lt_succ_self j), hc.out]
          exact cel_set (hA.out.2 j hj) _
        · have := hA.out.2 j hj
          by_cases e2 : j < k
          · rw [if_pos (by omega)]
            rw [if_pos e2] at this
            exact cel_far this (off_ne (Ne.symm e)) _
          · rw [if_neg (by omega)]
            rw [if_neg e2] at this
            exact cel_far this (off_ne (Ne.symm e)) _
      have NS : Aside (smn c = c → Below w.heap.size w wr ∧ ∀ j, j < n → Cel wr b j (.int .u8 (if j < k + 1 then smn (s.get! j).toNat else (s.get! j).toNat : Nat))) := fun hs => by
        refine ⟨hA.out.1, fun j hj => ?_⟩
        have := hA.out.2 j hj
        by_cases e : j = k
        · subst e
          rw [if_pos (Nat.lt_succ_self j), hc.out, hs]
          rw [if_neg (Nat.lt_irrefl j), hc.out] at this
          exact this
        · by_cases e2 : j < k
          · rw [if_pos (by omega)]
            rw [if_pos e2] at this
            exact this
          · rw [if_neg (by omega)]
            rw [if_neg e2] at this
            exact this
      have x2 : (0 : Int) ≤ (c : Int) := by omega
      clear hA
      by_cases h1 : 65 ≤ c
      · have x0 : (65 : Int) ≤ (c : Int) := by omega
        by_cases h2 : c ≤ 90
        · have x1 : (c : Int) ≤ 90 := by omega
          have V : Aside (smn c = c + 32) := by unfold Aside; unfold smn; rw [if_pos ⟨h1, h2⟩]
          clear h1 h2
          go_wp2_with fail
          go_roundg (gk - 1)
          case measure => omega
          case rel => exact ⟨k + 1, by go_num, by omega, NX.out _ (by rw [V.out]; rfl)⟩
        · have x1 : ¬ (c : Int) ≤ 90 := by omega
          have V : Aside (smn c = c) := by unfold Aside; unfold smn; rw [if_neg (by omega)]
          clear h1 h2
          go_wp2_with fail
          go_roundg (gk - 1)
          case measure => omega
          case rel => exact ⟨k + 1, by go_num, by omega, NS.out V.out⟩
      · have x0 : ¬ (65 : Int) ≤ (c : Int) := by omega
        have V : Aside (smn c = c) := by unfold Aside; unfold smn; rw [if_neg (by omega)]
        clear h1
        go_wp2_with fail
        go_roundg (gk - 1)
        case measure => omega
        case rel => exact ⟨k + 1, by go_num, by omega, NS.out V.out⟩
    · obtain rfl : k = n := by omega
      have y1 : ¬ (k : Int) < (k : Int) := by omega
      have CV : (convert 74 9 (.slice (some ⟨b, 0, none⟩) k cap)).run Tryz.prog wr = .ok (.string (lo s)) wr := by
        have e : (lo s).size = k := by rw [lo_size]; exact hn.out
        have : Sl wr (.slice (some ⟨b, 0, none⟩) k cap) (lo s) := ⟨_, cap, by rw [e], by rw [e]; exact q1, q2, fun _ => ⟨b, 0, rfl, fun j hj => by
          rw [e] at hj
          have := (hA.out.2 j hj).1
          rw [if_pos hj] at this
          rw [Nat.zero_add, lo_get]
          exact this⟩⟩
        exact conv_sl this
      go_wp2_with fail
      go_ret
      exact ⟨rfl, hA.out.1⟩
end Go.Proofs.YtoilalffhmjhdaaGreatDoor.lower
