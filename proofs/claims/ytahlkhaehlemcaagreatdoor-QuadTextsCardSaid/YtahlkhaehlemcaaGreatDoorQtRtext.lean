/- The document's own text of an address. -/
import Derived.Test.YtahlkhaehlemcaaGreatDoorQtWritten
import Derived.Test.YtahlkhaehlemcaaGreatDoorQdSpeaks
import Derived.Laws.Strings2
import Derived.Deep.LoopGhost
import Derived.Lib.Hide
import Derived.Deep.QuietTactic
import Derived.BigQuiet
set_option linter.unusedSimpArgs false
set_option linter.unusedVariables false
namespace Go.Proofs.YtahlkhaehlemcaaGreatDoor.qtext
open Go.RowKit Go.Proofs.YtahlkhaehlemcaaGreatDoor.errs Go.Proofs.YtahlkhaehlemcaaGreatDoor.rq Go.Proofs.YtahlkhaehlemcaaGreatDoor.qparse Go.Proofs.YtahlkhaehlemcaaGreatDoor.qlaid

theorem at0 (a b c d : Int) (w : World) : (Instr.index 24 (.agg #[.int .u8 a, .int .u8 b, .int .u8 c, .int .u8 d]) (.int .i64 0)).run Tryz.prog w = .ok (.int .u8 a) w := by kernel_rfl
theorem at1 (a b c d : Int) (w : World) : (Instr.index 24 (.agg #[.int .u8 a, .int .u8 b, .int .u8 c, .int .u8 d]) (.int .i64 1)).run Tryz.prog w = .ok (.int .u8 b) w := by kernel_rfl
theorem at2 (a b c d : Int) (w : World) : (Instr.index 24 (.agg #[.int .u8 a, .int .u8 b, .int .u8 c, .int .u8 d]) (.int .i64 2)).run Tryz.prog w = .ok (.int .u8 c) w := by kernel_rfl
theorem at3 (a b c d : Int) (w : World) : (Instr.index 24 (.agg #[.int .u8 a, .int .u8 b, .int .u8 c, .int .u8 d]) (.int .i64 3)).run Tryz.prog w = .ok (.int .u8 d) w := by kernel_rfl

/-- So much of an address's text. -/
def upTo (a b c d : ByteArray) (i : Nat) : ByteArray :=
  if i = 0 then ⟨#[]⟩ else if i = 1 then a else if i = 2 then a ++ ⟨#[46]⟩ ++ b else if i = 3 then a ++ ⟨#[46]⟩ ++ b ++ ⟨#[46]⟩ ++ c else a ++ ⟨#[46]⟩ ++ b ++ ⟨#[46]⟩ ++ c ++ ⟨#[46]⟩ ++ d
theorem upTo_size {a b c d : ByteArray} (ha : a.size ≤ 3) (hb : b.size ≤ 3) (hc : c.size ≤ 3) (hd : d.size ≤ 3) (i : Nat) : (upTo a b c d i).size ≤ 20 := by
  have h1 : (⟨#[46]⟩ : ByteArray).size = 1 := rfl
  have h0 : (⟨#[]⟩ : ByteArray).size = 0 := rfl
  unfold upTo
  split
  · omega
  · split
    · omega
    · split
      · simp only [ByteArray.size_append]; omega
      · split
        · simp only [ByteArray.size_append]; omega
        · simp only [ByteArray.size_append]; omega
theorem upTo_four (a b c d : Nat) : upTo (part a) (part b) (part c) (part d) 4 = textOf a b c d := by
  apply list_ext
  show (part a ++ ⟨#[46]⟩ ++ part b ++ ⟨#[46]⟩ ++ part c ++ ⟨#[46]⟩ ++ part d : ByteArray).data.toList = textList a b c d
  simp only [ByteArray.data_append, Array.toList_append, part_list]
  simp [textList]

set_option maxRecDepth 100000 in
set_option maxHeartbeats 4000000 in
theorem rtext_any (a b c d : Nat) (ha : a < 256) (hb : b < 256) (hc : c < 256) (hd : d < 256) (w : World) :
    Calls Tryz.prog 14 #[.agg #[.int .u8 a, .int .u8 b, .int .u8 c, .int .u8 d]] w fun e w' => e = .returned (.string (textOf a b c d)) ∧ Below w.heap.size w w' := by
  have CA := fun w => written_any a ha w
  have CB := fun w => written_any b hb w
  have CC := fun w => written_any c hc w
  have CD := fun w => written_any d hd w
  have sa : (part a).size ≤ 3 := by rw [part_size]; exact (part_facts ha).2.2.1
  have sb : (part b).size ≤ 3 := by rw [part_size]; exact (part_facts hb).2.2.1
  have sc : (part c).size ≤ 3 := by rw [part_size]; exact (part_facts hc).2.2.1
  have sd : (part d).size ≤ 3 := by rw [part_size]; exact (part_facts hd).2.2.1
  obtain ⟨res, hres⟩ : ∃ res, Hid (textOf a b c d = res) := ⟨_, rfl⟩
  have hup := upTo_four a b c d
  rw [hres.out] at hup ⊢
  have HU := Lib.hid hup
  clear hup hres
  obtain ⟨ai, hai⟩ : ∃ ai : Int, Hid ((a : Int) = ai) := ⟨_, rfl⟩
  obtain ⟨bi, hbi⟩ : ∃ bi : Int, Hid ((b : Int) = bi) := ⟨_, rfl⟩
  obtain ⟨ci, hci⟩ : ∃ ci : Int, Hid ((c : Int) = ci) := ⟨_, rfl⟩
  obtain ⟨di, hdi⟩ : ∃ di : Int, Hid ((d : Int) = di) := ⟨_, rfl⟩
  have za : 0 ≤ ai ∧ ai ≤ 255 := by have := hai.out; omega
  have zb : 0 ≤ bi ∧ bi ≤ 255 := by have := hbi.out; omega
  have zc : 0 ≤ ci ∧ ci ≤ 255 := by have := hci.out; omega
  have zd : 0 ≤ di ∧ di ≤ 255 := by have := hdi.out; omega
  obtain ⟨za0, za1⟩ := za
  obtain ⟨zb0, zb1⟩ := zb
  obtain ⟨zc0, zc1⟩ := zc
  obtain ⟨zd0, zd1⟩ := zd
  rw [hai.out, hbi.out, hci.out, hdi.out]
  rw [hai.out] at CA
  rw [hbi.out] at CB
  rw [hci.out] at CC
  rw [hdi.out] at CD
  generalize part a = pa at *
  generalize part b = pb at *
  generalize part c = pc at *
  generalize part d = pd at *
  clear hai hbi hci hdi ha hb hc hd
  go_enter Tryz.func14, Tryz.ntmps14
  go_wp2_with fail
  obtain ⟨W0, hW0⟩ : ∃ W0, W0 = w.alloc (.cells #[.int .u8 ai, .int .u8 bi, .int .u8 ci, .int .u8 di] 24) := ⟨_, rfl⟩
  have Q0 : Aside (Keeps w W0 ∧ Four W0 w.heap.size (.int .u8 ai) (.int .u8 bi) (.int .u8 ci) (.int .u8 di)) := by rw [hW0]; exact ⟨keeps_new _ _, four_new _ _ _ _ _ _⟩
  rw [← hW0]
  generalize w.heap.size = ab at Q0 ⊢
  clear hW0
  go_loopg [3, 4] 4 (fun g v0 v1 wr => ∃ (i : Nat) (ii : Int) (t : ByteArray), v0 = .string t ∧ v1 = .int .i64 ii ∧ ii = i ∧ g + i = 4 ∧ Aside (t = upTo pa pb pc pd i ∧ Keeps w wr ∧ Four wr ab (.int .u8 ai) (.int .u8 bi) (.int .u8 ci) (.int .u8 di)))
  case atStart => exact ⟨0, _, _, rfl, rfl, rfl, rfl, rfl, Q0.out⟩
  case round =>
    clear Q0
    obtain ⟨i, ii, t, rfl, rfl, hii, hg, hA⟩ := hrel
    rcases (show i = 0 ∨ i = 1 ∨ i = 2 ∨ i = 3 ∨ i = 4 by omega) with rfl | rfl | rfl | rfl | rfl
    · obtain rfl : ii = 0 := hii
      obtain ⟨u, hu⟩ : ∃ u, Hid (upTo pa pb pc pd 0 = u) := ⟨_, rfl⟩
      obtain rfl : t = u := hA.out.1.trans hu.out
      have hts : t.size ≤ 20 := by rw [← hu.out]; exact upTo_size sa sb sc sd _
      have HN : Hid (t ++ pa = upTo pa pb pc pd 1) := by rw [← hu.out]; rfl
      obtain ⟨c0, c1, c2, c3⟩ := hA.out.2.2
      have K := Lib.hid hA.out.2
      clear hA hu
      go_wp2_with (go_at_call 36; refine (CA _).mono ?_; rintro e w1 ⟨rfl, hb1⟩)
      go_roundg 3
      case measure => omega
      case rel => exact ⟨1, _, _, rfl, rfl, rfl, by omega, HN.out, K.out.1.step hb1, K.out.2.below hb1⟩
    · obtain rfl : ii = 1 := hii
      obtain ⟨u, hu⟩ : ∃ u, Hid (upTo pa pb pc pd 1 = u) := ⟨_, rfl⟩
      obtain rfl : t = u := hA.out.1.trans hu.out
      have hts : t.size ≤ 20 := by rw [← hu.out]; exact upTo_size sa sb sc sd _
      have HN : Hid (t ++ ⟨#[46]⟩ ++ pb = upTo pa pb pc pd 2) := by rw [← hu.out]; rfl
      obtain ⟨c0, c1, c2, c3⟩ := hA.out.2.2
      have K := Lib.hid hA.out.2
      clear hA hu
      go_wp2_with (go_at_call 36; refine (CB _).mono ?_; rintro e w1 ⟨rfl, hb1⟩)
      go_roundg 2
      case measure => omega
      case rel => exact ⟨2, _, _, rfl, rfl, rfl, by omega, HN.out, K.out.1.step hb1, K.out.2.below hb1⟩
    · obtain rfl : ii = 2 := hii
      obtain ⟨u, hu⟩ : ∃ u, Hid (upTo pa pb pc pd 2 = u) := ⟨_, rfl⟩
      obtain rfl : t = u := hA.out.1.trans hu.out
      have hts : t.size ≤ 20 := by rw [← hu.out]; exact upTo_size sa sb sc sd _
      have HN : Hid (t ++ ⟨#[46]⟩ ++ pc = upTo pa pb pc pd 3) := by rw [← hu.out]; rfl
      obtain ⟨c0, c1, c2, c3⟩ := hA.out.2.2
      have K := Lib.hid hA.out.2
      clear hA hu
      go_wp2_with (go_at_call 36; refine (CC _).mono ?_; rintro e w1 ⟨rfl, hb1⟩)
      go_roundg 1
      case measure => omega
      case rel => exact ⟨3, _, _, rfl, rfl, rfl, by omega, HN.out, K.out.1.step hb1, K.out.2.below hb1⟩
    · obtain rfl : ii = 3 := hii
      obtain ⟨u, hu⟩ : ∃ u, Hid (upTo pa pb pc pd 3 = u) := ⟨_, rfl⟩
      obtain rfl : t = u := hA.out.1.trans hu.out
      have hts : t.size ≤ 20 := by rw [← hu.out]; exact upTo_size sa sb sc sd _
      have HN : Hid (t ++ ⟨#[46]⟩ ++ pd = upTo pa pb pc pd 4) := by rw [← hu.out]; rfl
      obtain ⟨c0, c1, c2, c3⟩ := hA.out.2.2
      have K := Lib.hid hA.out.2
      clear hA hu
      go_wp2_with (go_at_call 36; refine (CD _).mono ?_; rintro e w1 ⟨rfl, hb1⟩)
      go_roundg 0
      case measure => omega
      case rel => exact ⟨4, _, _, rfl, rfl, rfl, by omega, HN.out, K.out.1.step hb1, K.out.2.below hb1⟩
    · obtain rfl : ii = 4 := hii
      have V : Aside (t = res) := hA.out.1.trans HU.out
      have K : Aside (Keeps w wr) := hA.out.2.1
      clear hA
      go_wp2_with fail
      go_ret
      exact ⟨by rw [V.out]; rfl, K.out⟩
end Go.Proofs.YtahlkhaehlemcaaGreatDoor.qtext
