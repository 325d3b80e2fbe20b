/- quad.Text: an address's text. -/
import Derived.Test.YtahlkhaehlemcaaGreatDoorQtUint
import Derived.Test.YtahlkhaehlemcaaGreatDoorShelfJ
import Derived.Test.YtahlkhaehlemcaaGreatDoorQtRtext
import Derived.Deep.LoopGhost
import Derived.Lib.Hide
set_option linter.unusedSimpArgs false
set_option linter.unusedVariables false
namespace Go.Proofs.YtahlkhaehlemcaaGreatDoor.qtext
open Go.RowKit Go.Proofs.YtahlkhaehlemcaaGreatDoor.errs Go.Proofs.YtahlkhaehlemcaaGreatDoor.rq Go.Proofs.YtahlkhaehlemcaaGreatDoor.qparse Go.Proofs.YtahlkhaehlemcaaGreatDoor.qlaid

/-- Four texts in a block, of which so many are laid. -/
def Txt (w : World) (tb : Nat) (f : Nat → ByteArray) (i : Nat) : Prop := ∀ j, j < 4 → Cel w tb j (.string (if j < i then f j else ⟨#[]⟩))
theorem Txt.below {w w' : World} {tb i : Nat} {f : Nat → ByteArray} (h : Txt w tb f i) (hb : Keeps w w') : Txt w' tb f i := fun j hj => (h j hj).below hb
theorem txt_new (w : World) (f : Nat → ByteArray) (T : TypeId) : Txt (w.alloc (.cells #[.string ⟨#[]⟩, .string ⟨#[]⟩, .string ⟨#[]⟩, .string ⟨#[]⟩] T)) w.heap.size f 0 := by
  intro j hj
  refine cel_new _ _ _ _ _ ?_
  match j, hj with
  | 0, _ => rfl
  | 1, _ => rfl
  | 2, _ => rfl
  | 3, _ => rfl
theorem Txt.store {w : World} {tb i : Nat} {f : Nat → ByteArray} (h : Txt w tb f i) (hi : i < 4) : Txt (w.setCell ⟨tb, i, none⟩ (.string (f i))) tb f (i + 1) := by
  intro j hj
  by_cases e : j = i
  · subst e
    rw [if_pos (Nat.lt_succ_self _)]
    exact cel_set (h j hj) _
  · have h2 := cel_far (h j hj) (p := ⟨tb, i, none⟩) (off_ne (Ne.symm e)) (.string (f i))
    by_cases hl : j < i
    · rw [if_pos (by omega)]
      rw [if_pos hl] at h2
      exact h2
    · rw [if_neg (by omega)]
      rw [if_neg hl] at h2
      exact h2

def nth (a b c d : ByteArray) (j : Nat) : ByteArray := [a, b, c, d].getD j ⟨#[]⟩
theorem join_any (a b c d : Nat) (ha : a < 256) (hb : b < 256) (hc : c < 256) (hd : d < 256) (w : World) (tb : Nat) (h : Txt w tb (nth (part a) (part b) (part c) (part d)) 4) (ht : tb < w.heap.size) :
    Calls Tryz.prog 34 #[.slice (some ⟨tb, 0, none⟩) 4 4, .string ⟨#[46]⟩] w fun e w' => e = .returned (.string (textOf a b c d)) ∧ Below w.heap.size w w' := by
  have hl : (Lib.join ([part a, part b, part c, part d].map (·.data.toList)) (⟨#[46]⟩ : ByteArray).data.toList) = textList a b c d := text_join a b c d
  have hz := text_short ha hb hc hd
  rw [text_size] at hz
  have J := Tryz.strings_Join tb 0 4 [part a, part b, part c, part d] ⟨#[46]⟩ w (fun j x hj => by
    have hj4 : j < 4 := by
      have := (List.getElem?_eq_some_iff.1 hj).1
      simpa using this
    have hc := (h j hj4).1
    rw [if_pos hj4] at hc
    rw [Nat.zero_add, hc]
    unfold nth
    rw [List.getD_eq_getElem?_getD, hj]
    rfl) ht (by simp) (by simp) (by rw [hl]; omega)
  rw [hl] at J
  exact J

set_option maxRecDepth 100000 in
set_option maxHeartbeats 4000000 in
theorem text_any (a b c d : Nat) (ha : a < 256) (hb : b < 256) (hc : c < 256) (hd : d < 256) (w : World) (hp : Pow w) :
    Calls Tryz.prog 12 #[.agg #[.int .u8 a, .int .u8 b, .int .u8 c, .int .u8 d]] w fun e w' => e = .returned (.string (textOf a b c d)) ∧ Below w.heap.size w w' := by
  have CA := fun w hp => digits_any a ha w hp
  have CB := fun w hp => digits_any b hb w hp
  have CC := fun w hp => digits_any c hc w hp
  have CD := fun w hp => digits_any d hd w hp
  have J := Lib.hid (join_any a b c d ha hb hc hd)
  obtain ⟨res, hres⟩ : ∃ res, Hid (textOf a b c d = res) := ⟨_, rfl⟩
  rw [hres.out] at J ⊢
  obtain ⟨ai, hai⟩ : ∃ ai : Int, Hid ((a : Int) = ai) := ⟨_, rfl⟩
  obtain ⟨bi, hbi⟩ : ∃ bi : Int, Hid ((b : Int) = bi) := ⟨_, rfl⟩
  obtain ⟨ci, hci⟩ : ∃ ci : Int, Hid ((c : Int) = ci) := ⟨_, rfl⟩
  obtain ⟨di, hdi⟩ : ∃ di : Int, Hid ((d : Int) = di) := ⟨_, rfl⟩
  obtain ⟨za0, za1⟩ : 0 ≤ ai ∧ ai ≤ 255 := by have := hai.out; omega
  obtain ⟨zb0, zb1⟩ : 0 ≤ bi ∧ bi ≤ 255 := by have := hbi.out; omega
  obtain ⟨zc0, zc1⟩ : 0 ≤ ci ∧ ci ≤ 255 := by have := hci.out; omega
  obtain ⟨zd0, zd1⟩ : 0 ≤ di ∧ di ≤ 255 := by have := hdi.out; omega
  rw [hai.out, hbi.out, hci.out, hdi.out]
  rw [hai.out] at CA
  rw [hbi.out] at CB
  rw [hci.out] at CC
  rw [hdi.out] at CD
  generalize part a = pa at *
  generalize part b = pb at *
  generalize part c = pc at *
  generalize part d = pd at *
  obtain ⟨f, hf⟩ : ∃ f, Hid (f = nth pa pb pc pd) := ⟨_, rfl⟩
  have f0 : Hid (f 0 = pa) := by show _ = _; rw [hf.out]; rfl
  have f1 : Hid (f 1 = pb) := by show _ = _; rw [hf.out]; rfl
  have f2 : Hid (f 2 = pc) := by show _ = _; rw [hf.out]; rfl
  have f3 : Hid (f 3 = pd) := by show _ = _; rw [hf.out]; rfl
  rw [← hf.out] at J
  have i0 := at0 ai bi ci di
  have i1 := at1 ai bi ci di
  have i2 := at2 ai bi ci di
  have i3 := at3 ai bi ci di
  clear hai hbi hci hdi ha hb hc hd hf hres
  go_enter Tryz.func12, Tryz.ntmps12
  go_wp2_with fail
  obtain ⟨W0, hW0⟩ : ∃ W0, W0 = (w.alloc (.cells #[.int .u8 ai, .int .u8 bi, .int .u8 ci, .int .u8 di] 24)).alloc (.cells #[.string ⟨#[]⟩, .string ⟨#[]⟩, .string ⟨#[]⟩, .string ⟨#[]⟩] 66) := ⟨_, rfl⟩
  obtain ⟨tb, htb⟩ : ∃ tb, Hid (w.heap.size + 1 = tb) := ⟨_, rfl⟩
  have Q0 : Aside (Keeps w W0 ∧ Txt W0 tb f 0 ∧ tb < W0.heap.size ∧ w.heap.size ≤ tb ∧ Pow W0) := by
    have k1 : Keeps w (w.alloc (.cells #[.int .u8 ai, .int .u8 bi, .int .u8 ci, .int .u8 di] 24)) := keeps_new _ _
    have k2 : Keeps w W0 := by rw [hW0]; exact k1.step (keeps_new _ _)
    refine ⟨k2, ?_, ?_, ?_, hp.below k2 (Nat.le_refl _)⟩
    · have := txt_new (w.alloc (.cells #[.int .u8 ai, .int .u8 bi, .int .u8 ci, .int .u8 di] 24)) f 66
      rw [hW0, ← htb.out]
      rw [World.size_alloc] at this
      exact this
    · rw [hW0, ← htb.out]; simp
    · rw [← htb.out]; omega
  rw [htb.out, ← hW0]
  have POW : ∀ W, Keeps w W → Pow W := fun W hk => hp.below hk (Nat.le_refl _)
  clear hW0 htb hp
  go_loopg [7] 4 (fun g v0 wr => ∃ (i : Nat) (ii : Int), v0 = .int .i64 ii ∧ ii = i ∧ g + i = 4 ∧ Aside (Keeps w wr ∧ Txt wr tb f i ∧ tb < wr.heap.size ∧ w.heap.size ≤ tb ∧ Pow wr))
  case atStart => exact ⟨0, _, rfl, rfl, rfl, Q0.out⟩
  case round =>
    clear Q0
    obtain ⟨i, ii, rfl, hii, hg, hA⟩ := hrel
    rcases (show i = 0 ∨ i = 1 ∨ i = 2 ∨ i = 3 ∨ i = 4 by omega) with rfl | rfl | rfl | rfl | rfl
    · obtain rfl : ii = 0 := hii
      have C1 := CA wr hA.out.2.2.2.2
      go_wp2_with fail
      refine C1.mono ?_; rintro e w1 ⟨rfl, hb1⟩
      have T1 := hA.out.2.1.below hb1
      obtain ⟨c0, c1⟩ := T1 0 (by decide)
      have N : Aside (Keeps w (w1.setCell ⟨tb, 0, none⟩ (.string pa)) ∧ Txt (w1.setCell ⟨tb, 0, none⟩ (.string pa)) tb f 1 ∧ tb < (w1.setCell ⟨tb, 0, none⟩ (.string pa)).heap.size ∧ w.heap.size ≤ tb ∧ Pow (w1.setCell ⟨tb, 0, none⟩ (.string pa))) := by
        have k1 : Keeps w (w1.setCell ⟨tb, 0, none⟩ (.string pa)) := (hA.out.1.step hb1).setCell (p := ⟨tb, 0, none⟩) hA.out.2.2.2.1 _
        have hst := T1.store (i := 0) (by decide)
        rw [f0.out] at hst
        refine ⟨k1, hst, ?_, hA.out.2.2.2.1, ?_⟩
        · have := hb1.size; have := hA.out.2.2.1; simp [World.setCell]; omega
        · exact POW _ k1
      rw [if_neg (by decide)] at c0
      clear hA T1 C1 hb1
      go_wp2_with fail
      go_roundg 3
      case measure => omega
      case rel => exact ⟨1, _, rfl, rfl, by omega, N.out⟩
    · obtain rfl : ii = 1 := hii
      have C1 := CB wr hA.out.2.2.2.2
      go_wp2_with fail
      refine C1.mono ?_; rintro e w1 ⟨rfl, hb1⟩
      have T1 := hA.out.2.1.below hb1
      obtain ⟨c0, c1⟩ := T1 1 (by decide)
      have N : Aside (Keeps w (w1.setCell ⟨tb, 1, none⟩ (.string pb)) ∧ Txt (w1.setCell ⟨tb, 1, none⟩ (.string pb)) tb f 2 ∧ tb < (w1.setCell ⟨tb, 1, none⟩ (.string pb)).heap.size ∧ w.heap.size ≤ tb ∧ Pow (w1.setCell ⟨tb, 1, none⟩ (.string pb))) := by
        have k1 : Keeps w (w1.setCell ⟨tb, 1, none⟩ (.string pb)) := (hA.out.1.step hb1).setCell (p := ⟨tb, 1, none⟩) hA.out.2.2.2.1 _
        have hst := T1.store (i := 1) (by decide)
        rw [f1.out] at hst
        refine ⟨k1, hst, ?_, hA.out.2.2.2.1, ?_⟩
        · have := hb1.size; have := hA.out.2.2.1; simp [World.setCell]; omega
        · exact POW _ k1
      rw [if_neg (by decide)] at c0
      clear hA T1 C1 hb1
      go_wp2_with fail
      go_roundg 2
      case measure => omega
      case rel => exact ⟨2, _, rfl, rfl, by omega, N.out⟩
    · obtain rfl : ii = 2 := hii
      have C1 := CC wr hA.out.2.2.2.2
      go_wp2_with fail
      refine C1.mono ?_; rintro e w1 ⟨rfl, hb1⟩
      have T1 := hA.out.2.1.below hb1
      obtain ⟨c0, c1⟩ := T1 2 (by decide)
      have N : Aside (Keeps w (w1.setCell ⟨tb, 2, none⟩ (.string pc)) ∧ Txt (w1.setCell ⟨tb, 2, none⟩ (.string pc)) tb f 3 ∧ tb < (w1.setCell ⟨tb, 2, none⟩ (.string pc)).heap.size ∧ w.heap.size ≤ tb ∧ Pow (w1.setCell ⟨tb, 2, none⟩ (.string pc))) := by
        have k1 : Keeps w (w1.setCell ⟨tb, 2, none⟩ (.string pc)) := (hA.out.1.step hb1).setCell (p := ⟨tb, 2, none⟩) hA.out.2.2.2.1 _
        have hst := T1.store (i := 2) (by decide)
        rw [f2.out] at hst
        refine ⟨k1, hst, ?_, hA.out.2.2.2.1, ?_⟩
        · have := hb1.size; have := hA.out.2.2.1; simp [World.setCell]; omega
        · exact POW _ k1
      rw [if_neg (by decide)] at c0
      clear hA T1 C1 hb1
      go_wp2_with fail
      go_roundg 1
      case measure => omega
      case rel => exact ⟨3, _, rfl, rfl, by omega, N.out⟩
    · obtain rfl : ii = 3 := hii
      have C1 := CD wr hA.out.2.2.2.2
      go_wp2_with fail
      refine C1.mono ?_; rintro e w1 ⟨rfl, hb1⟩
      have T1 := hA.out.2.1.below hb1
      obtain ⟨c0, c1⟩ := T1 3 (by decide)
      have N : Aside (Keeps w (w1.setCell ⟨tb, 3, none⟩ (.string pd)) ∧ Txt (w1.setCell ⟨tb, 3, none⟩ (.string pd)) tb f 4 ∧ tb < (w1.setCell ⟨tb, 3, none⟩ (.string pd)).heap.size ∧ w.heap.size ≤ tb ∧ Pow (w1.setCell ⟨tb, 3, none⟩ (.string pd))) := by
        have k1 : Keeps w (w1.setCell ⟨tb, 3, none⟩ (.string pd)) := (hA.out.1.step hb1).setCell (p := ⟨tb, 3, none⟩) hA.out.2.2.2.1 _
        have hst := T1.store (i := 3) (by decide)
        rw [f3.out] at hst
        refine ⟨k1, hst, ?_, hA.out.2.2.2.1, ?_⟩
        · have := hb1.size; have := hA.out.2.2.1; simp [World.setCell]; omega
        · exact POW _ k1
      rw [if_neg (by decide)] at c0
      clear hA T1 C1 hb1
      go_wp2_with fail
      go_roundg 0
      case measure => omega
      case rel => exact ⟨4, _, rfl, rfl, by omega, N.out⟩
    · obtain rfl : ii = 4 := hii
      have K := Lib.hid hA.out.1
      have C1 := J.out wr tb hA.out.2.1 hA.out.2.2.1
      clear hA
      go_wp2_with fail
      refine C1.mono ?_; rintro e w1 ⟨rfl, hb1⟩
      have K2 : Aside (Keeps w w1) := K.out.step hb1
      clear hb1 K C1
      go_wp2_with fail
      go_ret
      exact ⟨rfl, K2.out⟩
end Go.Proofs.YtahlkhaehlemcaaGreatDoor.qtext
