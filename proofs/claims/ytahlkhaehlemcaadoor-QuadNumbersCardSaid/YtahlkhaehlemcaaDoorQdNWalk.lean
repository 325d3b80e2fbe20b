/- The walk of the law on addresses' numbers: it returns true, and what was there stays. -/
import Derived.Test.YtahlkhaehlemcaaDoorQdNumber
import Derived.Test.YtahlkhaehlemcaaDoorQdDig2
import Derived.Deep.LoopGhost
import Derived.Laws.BytesArg
set_option linter.unusedSimpArgs false
set_option linter.unusedVariables false
namespace Go.Proofs.YtahlkhaehlemcaaDoor.quadNumbers
open Go.RowKit Go.Proofs.YtahlkhaehlemcaaDoor.errs Go.Proofs.YtahlkhaehlemcaaDoor.qparse Go.Proofs.YtahlkhaehlemcaaDoor.qlaid Go.Proofs.YtahlkhaehlemcaaDoor.qdig Go.Proofs.YtahlkhaehlemcaaDoor.qread

/-- One byte in a new block, as a text. -/
theorem conv_one (w : World) (c : UInt8) (x : Int) (hx : x = (c.toNat : Int)) :
    (convert 29 9 (.slice (some ⟨w.heap.size, 0, none⟩) 1 1)).run Tryd.prog (w.alloc (.cells #[.int .u8 x] 5)) = .ok (.string ⟨#[c]⟩) (w.alloc (.cells #[.int .u8 x] 5)) := by
  subst hx
  exact run_convert_bytes_back (P := Tryd.prog) _ 29 9 5 ⟨w.heap.size, 0, none⟩ 1 [c] Tryd.underlying29 Tryd.underlying5 Tryd.underlying9 (fun j hj => by
    obtain rfl : j = 0 := by simpa using hj
    rw [show (Addr.add ⟨w.heap.size, 0, none⟩ 0 : Addr) = ⟨w.heap.size, 0, none⟩ by simp [Addr.add], World.cell?_alloc_at _ _ _ _ rfl]
    rfl)
theorem letter_low : ∀ d : Fin 10, ((letter d.1).toNat : Int) = 48 + (d.1 : Int) := by decide
theorem low_of {b m : Nat} (hb : b ≤ 10) (h0 : 0 < b) : 48 + ((m : Int) % (b : Int)) = ((letter (m % b)).toNat : Int) := by
  have := letter_low ⟨m % b, Nat.lt_of_lt_of_le (Nat.mod_lt _ h0) hb⟩
  rw [this]
  simp
theorem cat_one (c : UInt8) (t : ByteArray) : (⟨#[c]⟩ ++ t : ByteArray).data.toList = c :: t.data.toList := by
  rw [ByteArray.data_append, Array.toList_append]
  rfl
theorem cat_one_size (c : UInt8) (t : ByteArray) : (⟨#[c]⟩ ++ t : ByteArray).size = t.size + 1 := by
  rw [ByteArray.size_append, show (⟨#[c]⟩ : ByteArray).size = 1 from rfl]
  omega
/-- So far, from the last digit on. -/
def Done (b N g m : Nat) (t : ByteArray) : Prop := dl b g m ++ t.data.toList = dl b 32 N ∧ m < 2 ^ g ∧ m ≤ N ∧ g + t.size ≤ 32
theorem Done.start {b N : Nat} (h : N < 4294967296) : Done b N 32 N ⟨#[]⟩ := ⟨by simp, by simpa using h, Nat.le_refl _, by decide⟩
theorem Done.step {b N g m : Nat} {t : ByteArray} (hb : 2 ≤ b) (h : Done b N (g + 1) m t) (hm : m ≠ 0) : Done b N g (m / b) (⟨#[letter (m % b)]⟩ ++ t) := by
  obtain ⟨h1, h2, h3, h4⟩ := h
  rw [dl_succ hm, List.append_assoc] at h1
  refine ⟨by rw [cat_one]; exact h1, ?_, Nat.le_trans (Nat.div_le_self _ _) h3, by rw [cat_one_size]; omega⟩
  refine Nat.lt_of_le_of_lt (Nat.div_le_div_left hb (by decide)) ?_
  rw [Nat.pow_succ] at h2
  omega
theorem Done.last {b N g : Nat} {t : ByteArray} (h : Done b N g 0 t) : t = ⟨(dl b 32 N).toArray⟩ := by
  have h1 := h.1
  rw [dl_zero] at h1
  exact eq_list h1

theorem parse_is {s : ByteArray} {n : Nat} (h : parseOf s = goodOf n) (hn : n < 4294967296) (w : World) (hs : s.size ≤ 1000) (hv : RangeVar w) :
    Calls Tryd.prog 7 #[.string s] w fun e w' => e = .returned (.tuple #[.agg #[.int .u8 ((n : Int) / 16777216), .int .u8 ((n : Int) / 65536 % 256), .int .u8 ((n : Int) / 256 % 256), .int .u8 ((n : Int) % 256)], .nilIface]) ∧ Below w.heap.size w w' := by
  refine (parse_good h w hs hv).mono ?_
  rintro e w' ⟨rfl, hb⟩
  refine ⟨?_, hb⟩
  rw [show ((n / 16777216 % 256 : Nat) : Int) = (n : Int) / 16777216 by omega, show ((n / 65536 % 256 : Nat) : Int) = (n : Int) / 65536 % 256 by omega, show ((n / 256 % 256 : Nat) : Int) = (n : Int) / 256 % 256 by omega, show ((n % 256 : Nat) : Int) = (n : Int) % 256 by omega]

set_option maxRecDepth 100000 in
set_option maxHeartbeats 8000000 in
theorem law (n : Nat) (w : World) (h1 : n < 4294967296) (hL : Lay w) :
    Calls Tryd.prog 3 #[.int .u32 n] w fun e w' => e = .returned (.bool true) ∧ Below w.heap.size w w' := by
  have S := speaks_any w hL
  have HL : Aside (∀ w', Keeps w w' → Lay w') := fun w' hk => hL.below hk
  have y0 : 0 ≤ (n : Int) := by omega
  have y1 : (n : Int) < 4294967296 := by omega
  have O := fun w => of_any (n : Int) y0 y1 w
  have NU := fun w => number_any ((n : Int) / 16777216) ((n : Int) / 65536 % 256) ((n : Int) / 256 % 256) ((n : Int) % 256) w (by omega) (by omega) (by omega) (by omega)
  rw [show ((((n : Int) / 16777216) * 256 + (n : Int) / 65536 % 256) * 256 + (n : Int) / 256 % 256) * 256 + (n : Int) % 256 = (n : Int) by omega] at NU
  have EQ := qeq.run_same
  unfold qeq.same at EQ
  clear hL
  go_enter Tryd.func3, Tryd.ntmps3
  go_wp2_with fail
  refine S.mono ?_; rintro e w1 ⟨rfl, hb1⟩
  go_wp2_with fail
  refine (O _).mono ?_; rintro e w2 ⟨rfl, hb2⟩
  go_wp2_with fail
  obtain ⟨W2, hW2⟩ : ∃ W2, W2 = w2.alloc (.cells #[.int .u8 ((n : Int) / 16777216), .int .u8 ((n : Int) / 65536 % 256), .int .u8 ((n : Int) / 256 % 256), .int .u8 ((n : Int) % 256)] 25) := ⟨_, rfl⟩
  have Q2 : Aside (Keeps w W2 ∧ Four W2 w2.heap.size (.int .u8 ((n : Int) / 16777216)) (.int .u8 ((n : Int) / 65536 % 256)) (.int .u8 ((n : Int) / 256 % 256)) (.int .u8 ((n : Int) % 256))) := by rw [hW2]; exact ⟨(Keeps.step hb1 hb2).step (keeps_new _ _), four_new _ _ _ _ _ _⟩
  rw [← hW2]
  generalize w2.heap.size = ab at Q2 ⊢
  clear hW2 hb1 hb2 S O
  refine (NU _).mono ?_; rintro e w3 ⟨rfl, hb3⟩
  have Q3 : Aside (Keeps w w3 ∧ Four w3 ab (.int .u8 ((n : Int) / 16777216)) (.int .u8 ((n : Int) / 65536 % 256)) (.int .u8 ((n : Int) / 256 % 256)) (.int .u8 ((n : Int) % 256))) := ⟨Q2.out.1.step hb3, Q2.out.2.below hb3⟩
  clear Q2 NU hb3
  go_wp2_with fail
  go_loopg [4, 7] 32 (fun g v0 v1 wr => ∃ (m : Nat) (mi : Int) (t : ByteArray), v0 = .string t ∧ v1 = .int .u32 mi ∧ Hid (mi = (m : Int) ∧ Done 10 n g m t) ∧ Aside (Keeps w wr ∧ Four wr ab (.int .u8 ((n : Int) / 16777216)) (.int .u8 ((n : Int) / 65536 % 256)) (.int .u8 ((n : Int) / 256 % 256)) (.int .u8 ((n : Int) % 256))))
  case atStart => exact ⟨n, _, _, rfl, rfl, ⟨rfl, Done.start h1⟩, Q3.out⟩
  case round =>
    clear Q3
    obtain ⟨m, mi, t10, rfl, rfl, hD, Q4⟩ := hrel
    have z10 : (t10.size : Int) ≤ 32 := by have := hD.out.2.2.2.2; omega
    by_cases hm : m = 0
    · obtain rfl : mi = 0 := by have := hD.out.1; omega
      subst hm
      have T10 := Lib.hid hD.out.2.last
      clear hD
      go_wp2_with fail
      go_loopg [5, 8] 32 (fun g v0 v1 wr => ∃ (m : Nat) (mi : Int) (t : ByteArray), v0 = .string t ∧ v1 = .int .u32 mi ∧ Hid (mi = (m : Int) ∧ Done 8 n g m t) ∧ Aside (Keeps w wr ∧ Four wr ab (.int .u8 ((n : Int) / 16777216)) (.int .u8 ((n : Int) / 65536 % 256)) (.int .u8 ((n : Int) / 256 % 256)) (.int .u8 ((n : Int) % 256))))
      case atStart => exact ⟨n, _, _, rfl, rfl, ⟨rfl, Done.start h1⟩, Q4.out⟩
      case round =>
        clear Q4
        obtain ⟨m, mi, t8, rfl, rfl, hD, Q5⟩ := hrel
        have z8 : (t8.size : Int) ≤ 32 := by have := hD.out.2.2.2.2; omega
        by_cases hm : m = 0
        · obtain rfl : mi = 0 := by have := hD.out.1; omega
          subst hm
          have T8 := Lib.hid hD.out.2.last
          clear hD
          go_wp2_with fail
          go_loopg [6, 9] 32 (fun g v0 v1 wr => ∃ (m : Nat) (mi : Int) (t : ByteArray), v0 = .string t ∧ v1 = .int .u32 mi ∧ Hid (mi = (m : Int) ∧ Done 16 n g m t) ∧ Aside (Keeps w wr ∧ Four wr ab (.int .u8 ((n : Int) / 16777216)) (.int .u8 ((n : Int) / 65536 % 256)) (.int .u8 ((n : Int) / 256 % 256)) (.int .u8 ((n : Int) % 256))))
          case atStart => exact ⟨n, _, _, rfl, rfl, ⟨rfl, Done.start h1⟩, Q5.out⟩
          case round =>
            clear Q5
            obtain ⟨m, mi, t16, rfl, rfl, hD, Q6⟩ := hrel
            have z16 : (t16.size : Int) ≤ 32 := by have := hD.out.2.2.2.2; omega
            by_cases hm : m = 0
            · obtain rfl : mi = 0 := by have := hD.out.1; omega
              subst hm
              have T16 := Lib.hid hD.out.2.last
              clear hD
              have s16 : parseOf (⟨#[48, 120]⟩ ++ t16) = goodOf n := by
                rw [show (⟨#[48, 120]⟩ ++ t16 : ByteArray) = ⟨(48 :: 120 :: dl 16 32 n).toArray⟩ from eq_list (by rw [ByteArray.data_append, Array.toList_append, T16.out]; rfl)]
                exact hex_read n h1
              have s8 : parseOf (⟨#[48]⟩ ++ t8 ++ ⟨#[46]⟩) = goodOf n := by
                rw [show (⟨#[48]⟩ ++ t8 : ByteArray) = ⟨(48 :: dl 8 32 n).toArray⟩ from eq_list (by rw [ByteArray.data_append, Array.toList_append, T8.out]; rfl)]
                exact oct_read n h1
              have l16 : (⟨#[48, 120]⟩ ++ t16 : ByteArray).size ≤ 1000 := by rw [ByteArray.size_append, show (⟨#[48, 120]⟩ : ByteArray).size = 2 from rfl]; omega
              have l8 : (⟨#[48]⟩ ++ t8 ++ ⟨#[46]⟩ : ByteArray).size ≤ 1000 := by rw [ByteArray.size_append, ByteArray.size_append, show (⟨#[48]⟩ : ByteArray).size = 1 from rfl, show (⟨#[46]⟩ : ByteArray).size = 1 from rfl]; omega
              have P1 := fun w hv => parse_is s16 h1 w l16 hv
              have P2 := fun w hv => parse_is s8 h1 w l8 hv
              have C1 := P1 wr (HL.out wr Q6.out.1).2
              clear s16 s8 l16 l8 P1 T16 T8
              go_wp2_with fail
              refine C1.mono ?_; rintro e v1 ⟨rfl, hb1⟩
              clear C1
              go_wp2_with fail
              obtain ⟨W1, hW1⟩ : ∃ W1, W1 = v1.alloc (.cells #[.int .u8 ((n : Int) / 16777216), .int .u8 ((n : Int) / 65536 % 256), .int .u8 ((n : Int) / 256 % 256), .int .u8 ((n : Int) % 256)] 25) := ⟨_, rfl⟩
              have k1 : Keeps wr W1 := by rw [hW1]; exact Keeps.step hb1 (keeps_new _ _)
              have Q7 : Aside (Keeps w W1 ∧ Four W1 ab (.int .u8 ((n : Int) / 16777216)) (.int .u8 ((n : Int) / 65536 % 256)) (.int .u8 ((n : Int) / 256 % 256)) (.int .u8 ((n : Int) % 256)) ∧ Four W1 v1.heap.size (.int .u8 ((n : Int) / 16777216)) (.int .u8 ((n : Int) / 65536 % 256)) (.int .u8 ((n : Int) / 256 % 256)) (.int .u8 ((n : Int) % 256))) := ⟨Q6.out.1.step k1, Q6.out.2.below k1, by rw [hW1]; exact four_new _ _ _ _ _ _⟩
              have C2 := P2 W1 (HL.out W1 Q7.out.1).2
              rw [← hW1]
              clear hW1 hb1 k1 Q6 P2
              generalize v1.heap.size = xb at Q7 ⊢
              refine C2.mono ?_; rintro e v2 ⟨rfl, hb2⟩
              clear C2
              go_wp2_with fail
              obtain ⟨W2, hW2⟩ : ∃ W2, W2 = v2.alloc (.cells #[.int .u8 ((n : Int) / 16777216), .int .u8 ((n : Int) / 65536 % 256), .int .u8 ((n : Int) / 256 % 256), .int .u8 ((n : Int) % 256)] 25) := ⟨_, rfl⟩
              have k2 : Keeps W1 W2 := by rw [hW2]; exact Keeps.step hb2 (keeps_new _ _)
              have Q8 : Aside (Keeps w W2 ∧ Four W2 ab (.int .u8 ((n : Int) / 16777216)) (.int .u8 ((n : Int) / 65536 % 256)) (.int .u8 ((n : Int) / 256 % 256)) (.int .u8 ((n : Int) % 256)) ∧ Four W2 xb (.int .u8 ((n : Int) / 16777216)) (.int .u8 ((n : Int) / 65536 % 256)) (.int .u8 ((n : Int) / 256 % 256)) (.int .u8 ((n : Int) % 256)) ∧ Four W2 v2.heap.size (.int .u8 ((n : Int) / 16777216)) (.int .u8 ((n : Int) / 65536 % 256)) (.int .u8 ((n : Int) / 256 % 256)) (.int .u8 ((n : Int) % 256))) := ⟨Q7.out.1.step k2, Q7.out.2.1.below k2, Q7.out.2.2.below k2, by rw [hW2]; exact four_new _ _ _ _ _ _⟩
              rw [← hW2]
              have hR := (HL.out W2 Q8.out.1).2
              clear hW2 hb2 k2 Q7
              generalize v2.heap.size = yb at Q8 ⊢
              by_cases hn0 : n = 0
              · have C3 := (parse_any t10 W2 (by omega) hR).mono addr_opened
                have yz : ((n : Int) == 0) = true := beq_iff_eq.2 (by omega)
                clear hR T10
                refine C3.mono ?_; rintro e v3 ⟨u0, u1, u2, u3, x, rfl, -, hb3⟩
                have k3 : Keeps W2 (v3.alloc (.cells #[.int .u8 u0, .int .u8 u1, .int .u8 u2, .int .u8 u3] 25)) := Keeps.step hb3 (keeps_new _ _)
                obtain ⟨a0, a1, a2, a3⟩ := Q8.out.2.1.below k3
                obtain ⟨b0, b1, b2, b3⟩ := Q8.out.2.2.1.below k3
                obtain ⟨c0, c1, c2, c3⟩ := Q8.out.2.2.2.below k3
                have K3 : Aside (Keeps w (v3.alloc (.cells #[.int .u8 u0, .int .u8 u1, .int .u8 u2, .int .u8 u3] 25))) := Q8.out.1.step k3
                clear k3 Q8 C3 hn0
                go_wp2_with fail
                go_ret
                exact ⟨rfl, K3.out⟩
              · have C3 := parse_is (dec_read n h1 hn0) h1 W2 (by have := dl_len (b := 10) (.inr (.inl rfl)) 32 n; rw [size_list]; omega) hR
                rw [← T10.out] at C3
                have yz : ((n : Int) == 0) = false := beq_eq_false_iff_ne.2 (by omega)
                clear hR T10
                refine C3.mono ?_; rintro e v3 ⟨rfl, hb3⟩
                have k3 : Keeps W2 (v3.alloc (.cells #[.int .u8 ((n : Int) / 16777216), .int .u8 ((n : Int) / 65536 % 256), .int .u8 ((n : Int) / 256 % 256), .int .u8 ((n : Int) % 256)] 25)) := Keeps.step hb3 (keeps_new _ _)
                obtain ⟨a0, a1, a2, a3⟩ := Q8.out.2.1.below k3
                obtain ⟨b0, b1, b2, b3⟩ := Q8.out.2.2.1.below k3
                obtain ⟨c0, c1, c2, c3⟩ := Q8.out.2.2.2.below k3
                have K3 : Aside (Keeps w (v3.alloc (.cells #[.int .u8 ((n : Int) / 16777216), .int .u8 ((n : Int) / 65536 % 256), .int .u8 ((n : Int) / 256 % 256), .int .u8 ((n : Int) % 256)] 25))) := Q8.out.1.step k3
                clear k3 Q8 C3 hn0
                go_wp2_with fail
                go_ret
                exact ⟨rfl, K3.out⟩
            · obtain ⟨g, rfl⟩ : ∃ g, gk = g + 1 := by
                cases gk with
                | zero => exact absurd (by have := hD.out.2.2.1; simpa using this) hm
                | succ g => exact ⟨g, rfl⟩
              have N : Hid (mi / 16 = ((m / 16 : Nat) : Int) ∧ Done 16 n g (m / 16) (⟨#[letter (m % 16)]⟩ ++ t16)) := ⟨by have := hD.out.1; omega, hD.out.2.step (by decide) hm⟩
              have z1 : (0 : Int) < mi := by have := hD.out.1; omega
              have z2 : mi < 4294967296 := by have := hD.out.1; have := hD.out.2.2.2.1; omega
              have hr16 : mi % 16 = ((m % 16 : Nat) : Int) := by have := hD.out.1; omega
              obtain ⟨r, hr⟩ : ∃ r, r = m % 16 := ⟨_, rfl⟩
              rw [← hr] at N hr16
              have hlt : r < 16 := by omega
              clear hD hm
              rcases (show r = 0 ∨ r = 1 ∨ r = 2 ∨ r = 3 ∨ r = 4 ∨ r = 5 ∨ r = 6 ∨ r = 7 ∨ r = 8 ∨ r = 9 ∨ r = 10 ∨ r = 11 ∨ r = 12 ∨ r = 13 ∨ r = 14 ∨ r = 15 by omega) with h | h | h | h | h | h | h | h | h | h | h | h | h | h | h | h
              · have hri : mi % 16 = 0 := by omega
                rw [h] at N
                have N : Hid (mi / 16 = ((m / 16 : Nat) : Int) ∧ Done 16 n g (m / 16) (⟨#[48]⟩ ++ t16)) := N
                have ix : ∀ W, (Instr.index 9 (.string ⟨#[48, 49, 50, 51, 52, 53, 54, 55, 56, 57, 97, 66, 99, 68, 101, 70]⟩) (.int .u32 (mi % 16))).run Tryd.prog W = .ok (.int .u8 48) W := fun W => by rw [hri]; kernel_rfl
                have cv : ∀ W, (convert 5 9 (.int .u8 48)).run Tryd.prog W = .ok (.string ⟨#[48]⟩) W := fun W => by kernel_rfl
                clear h hr hlt hr16 hri
                go_wp2_with fail
                go_roundg g
                case measure => omega
                case rel => exact ⟨m / 16, _, _, rfl, rfl, N, Q6.out⟩
              · have hri : mi % 16 = 1 := by omega
                rw [h] at N
                have N : Hid (mi / 16 = ((m / 16 : Nat) : Int) ∧ Done 16 n g (m / 16) (⟨#[49]⟩ ++ t16)) := N
                have ix : ∀ W, (Instr.index 9 (.string ⟨#[48, 49, 50, 51, 52, 53, 54, 55, 56, 57, 97, 66, 99, 68, 101, 70]⟩) (.int .u32 (mi % 16))).run Tryd.prog W = .ok (.int .u8 49) W := fun W => by rw [hri]; kernel_rfl
                have cv : ∀ W, (convert 5 9 (.int .u8 49)).run Tryd.prog W = .ok (.string ⟨#[49]⟩) W := fun W => by kernel_rfl
                clear h hr hlt hr16 hri
                go_wp2_with fail
                go_roundg g
                case measure => omega
                case rel => exact ⟨m / 16, _, _, rfl, rfl, N, Q6.out⟩
              · have hri : mi % 16 = 2 := by omega
                rw [h] at N
                have N : Hid (mi / 16 = ((m / 16 : Nat) : Int) ∧ Done 16 n g (m / 16) (⟨#[50]⟩ ++ t16)) := N
                have ix : ∀ W, (Instr.index 9 (.string ⟨#[48, 49, 50, 51, 52, 53, 54, 55, 56, 57, 97, 66, 99, 68, 101, 70]⟩) (.int .u32 (mi % 16))).run Tryd.prog W = .ok (.int .u8 50) W := fun W => by rw [hri]; kernel_rfl
                have cv : ∀ W, (convert 5 9 (.int .u8 50)).run Tryd.prog W = .ok (.string ⟨#[50]⟩) W := fun W => by kernel_rfl
                clear h hr hlt hr16 hri
                go_wp2_with fail
                go_roundg g
                case measure => omega
                case rel => exact ⟨m / 16, _, _, rfl, rfl, N, Q6.out⟩
              · have hri : mi % 16 = 3 := by omega
                rw [h] at N
                have N : Hid (mi / 16 = ((m / 16 : Nat) : Int) ∧ Done 16 n g (m / 16) (⟨#[51]⟩ ++ t16)) := N
                have ix : ∀ W, (Instr.index 9 (.string ⟨#[48, 49, 50, 51, 52, 53, 54, 55, 56, 57, 97, 66, 99, 68, 101, 70]⟩) (.int .u32 (mi % 16))).run Tryd.prog W = .ok (.int .u8 51) W := fun W => by rw [hri]; kernel_rfl
                have cv : ∀ W, (convert 5 9 (.int .u8 51)).run Tryd.prog W = .ok (.string ⟨#[51]⟩) W := fun W => by kernel_rfl
                clear h hr hlt hr16 hri
                go_wp2_with fail
                go_roundg g
                case measure => omega
                case rel => exact ⟨m / 16, _, _, rfl, rfl, N, Q6.out⟩
              · have hri : mi % 16 = 4 := by omega
                rw [h] at N
                have N : Hid (mi / 16 = ((m / 16 : Nat) : Int) ∧ Done 16 n g (m / 16) (⟨#[52]⟩ ++ t16)) := N
                have ix : ∀ W, (Instr.index 9 (.string ⟨#[48, 49, 50, 51, 52, 53, 54, 55, 56, 57, 97, 66, 99, 68, 101, 70]⟩) (.int .u32 (mi % 16))).run Tryd.prog W = .ok (.int .u8 52) W := fun W => by rw [hri]; kernel_rfl
                have cv : ∀ W, (convert 5 9 (.int .u8 52)).run Tryd.prog W = .ok (.string ⟨#[52]⟩) W := fun W => by kernel_rfl
                clear h hr hlt hr16 hri
                go_wp2_with fail
                go_roundg g
                case measure => omega
                case rel => exact ⟨m / 16, _, _, rfl, rfl, N, Q6.out⟩
              · have hri : mi % 16 = 5 := by omega
                rw [h] at N
                have N : Hid (mi / 16 = ((m / 16 : Nat) : Int) ∧ Done 16 n g (m / 16) (⟨#[53]⟩ ++ t16)) := N
                have ix : ∀ W, (Instr.index 9 (.string ⟨#[48, 49, 50, 51, 52, 53, 54, 55, 56, 57, 97, 66, 99, 68, 101, 70]⟩) (.int .u32 (mi % 16))).run Tryd.prog W = .ok (.int .u8 53) W := fun W => by rw [hri]; kernel_rfl
                have cv : ∀ W, (convert 5 9 (.int .u8 53)).run Tryd.prog W = .ok (.string ⟨#[53]⟩) W := fun W => by kernel_rfl
                clear h hr hlt hr16 hri
                go_wp2_with fail
                go_roundg g
                case measure => omega
                case rel => exact ⟨m / 16, _, _, rfl, rfl, N, Q6.out⟩
              · have hri : mi % 16 = 6 := by omega
                rw [h] at N
                have N : Hid (mi / 16 = ((m / 16 : Nat) : Int) ∧ Done 16 n g (m / 16) (⟨#[54]⟩ ++ t16)) := N
                have ix : ∀ W, (Instr.index 9 (.string ⟨#[48, 49, 50, 51, 52, 53, 54, 55, 56, 57, 97, 66, 99, 68, 101, 70]⟩) (.int .u32 (mi % 16))).run Tryd.prog W = .ok (.int .u8 54) W := fun W => by rw [hri]; kernel_rfl
                have cv : ∀ W, (convert 5 9 (.int .u8 54)).run Tryd.prog W = .ok (.string ⟨#[54]⟩) W := fun W => by kernel_rfl
                clear h hr hlt hr16 hri
                go_wp2_with fail
                go_roundg g
                case measure => omega
                case rel => exact ⟨m / 16, _, _, rfl, rfl, N, Q6.out⟩
              · have hri : mi % 16 = 7 := by omega
                rw [h] at N
                have N : Hid (mi / 16 = ((m / 16 : Nat) : Int) ∧ Done 16 n g (m / 16) (⟨#[55]⟩ ++ t16)) := N
                have ix : ∀ W, (Instr.index 9 (.string ⟨#[48, 49, 50, 51, 52, 53, 54, 55, 56, 57, 97, 66, 99, 68, 101, 70]⟩) (.int .u32 (mi % 16))).run Tryd.prog W = .ok (.int .u8 55) W := fun W => by rw [hri]; kernel_rfl
                have cv : ∀ W, (convert 5 9 (.int .u8 55)).run Tryd.prog W = .ok (.string ⟨#[55]⟩) W := fun W => by kernel_rfl
                clear h hr hlt hr16 hri
                go_wp2_with fail
                go_roundg g
                case measure => omega
                case rel => exact ⟨m / 16, _, _, rfl, rfl, N, Q6.out⟩
              · have hri : mi % 16 = 8 := by omega
                rw [h] at N
                have N : Hid (mi / 16 = ((m / 16 : Nat) : Int) ∧ Done 16 n g (m / 16) (⟨#[56]⟩ ++ t16)) := N
                have ix : ∀ W, (Instr.index 9 (.string ⟨#[48, 49, 50, 51, 52, 53, 54, 55, 56, 57, 97, 66, 99, 68, 101, 70]⟩) (.int .u32 (mi % 16))).run Tryd.prog W = .ok (.int .u8 56) W := fun W => by rw [hri]; kernel_rfl
                have cv : ∀ W, (convert 5 9 (.int .u8 56)).run Tryd.prog W = .ok (.string ⟨#[56]⟩) W := fun W => by kernel_rfl
                clear h hr hlt hr16 hri
                go_wp2_with fail
                go_roundg g
                case measure => omega
                case rel => exact ⟨m / 16, _, _, rfl, rfl, N, Q6.out⟩
              · have hri : mi % 16 = 9 := by omega
                rw [h] at N
                have N : Hid (mi / 16 = ((m / 16 : Nat) : Int) ∧ Done 16 n g (m / 16) (⟨#[57]⟩ ++ t16)) := N
                have ix : ∀ W, (Instr.index 9 (.string ⟨#[48, 49, 50, 51, 52, 53, 54, 55, 56, 57, 97, 66, 99, 68, 101, 70]⟩) (.int .u32 (mi % 16))).run Tryd.prog W = .ok (.int .u8 57) W := fun W => by rw [hri]; kernel_rfl
                have cv : ∀ W, (convert 5 9 (.int .u8 57)).run Tryd.prog W = .ok (.string ⟨#[57]⟩) W := fun W => by kernel_rfl
                clear h hr hlt hr16 hri
                go_wp2_with fail
                go_roundg g
                case measure => omega
                case rel => exact ⟨m / 16, _, _, rfl, rfl, N, Q6.out⟩
              · have hri : mi % 16 = 10 := by omega
                rw [h] at N
                have N : Hid (mi / 16 = ((m / 16 : Nat) : Int) ∧ Done 16 n g (m / 16) (⟨#[97]⟩ ++ t16)) := N
                have ix : ∀ W, (Instr.index 9 (.string ⟨#[48, 49, 50, 51, 52, 53, 54, 55, 56, 57, 97, 66, 99, 68, 101, 70]⟩) (.int .u32 (mi % 16))).run Tryd.prog W = .ok (.int .u8 97) W := fun W => by rw [hri]; kernel_rfl
                have cv : ∀ W, (convert 5 9 (.int .u8 97)).run Tryd.prog W = .ok (.string ⟨#[97]⟩) W := fun W => by kernel_rfl
                clear h hr hlt hr16 hri
                go_wp2_with fail
                go_roundg g
                case measure => omega
                case rel => exact ⟨m / 16, _, _, rfl, rfl, N, Q6.out⟩
              · have hri : mi % 16 = 11 := by omega
                rw [h] at N
                have N : Hid (mi / 16 = ((m / 16 : Nat) : Int) ∧ Done 16 n g (m / 16) (⟨#[66]⟩ ++ t16)) := N
                have ix : ∀ W, (Instr.index 9 (.string ⟨#[48, 49, 50, 51, 52, 53, 54, 55, 56, 57, 97, 66, 99, 68, 101, 70]⟩) (.int .u32 (mi % 16))).run Tryd.prog W = .ok (.int .u8 66) W := fun W => by rw [hri]; kernel_rfl
                have cv : ∀ W, (convert 5 9 (.int .u8 66)).run Tryd.prog W = .ok (.string ⟨#[66]⟩) W := fun W => by kernel_rfl
                clear h hr hlt hr16 hri
                go_wp2_with fail
                go_roundg g
                case measure => omega
                case rel => exact ⟨m / 16, _, _, rfl, rfl, N, Q6.out⟩
              · have hri : mi % 16 = 12 := by omega
                rw [h] at N
                have N : Hid (mi / 16 = ((m / 16 : Nat) : Int) ∧ Done 16 n g (m / 16) (⟨#[99]⟩ ++ t16)) := N
                have ix : ∀ W, (Instr.index 9 (.string ⟨#[48, 49, 50, 51, 52, 53, 54, 55, 56, 57, 97, 66, 99, 68, 101, 70]⟩) (.int .u32 (mi % 16))).run Tryd.prog W = .ok (.int .u8 99) W := fun W => by rw [hri]; kernel_rfl
                have cv : ∀ W, (convert 5 9 (.int .u8 99)).run Tryd.prog W = .ok (.string ⟨#[99]⟩) W := fun W => by kernel_rfl
                clear h hr hlt hr16 hri
                go_wp2_with fail
                go_roundg g
                case measure => omega
                case rel => exact ⟨m / 16, _, _, rfl, rfl, N, Q6.out⟩
              · have hri : mi % 16 = 13 := by omega
                rw [h] at N
                have N : Hid (mi / 16 = ((m / 16 : Nat) : Int) ∧ Done 16 n g (m / 16) (⟨#[68]⟩ ++ t16)) := N
                have ix : ∀ W, (Instr.index 9 (.string ⟨#[48, 49, 50, 51, 52, 53, 54, 55, 56, 57, 97, 66, 99, 68, 101, 70]⟩) (.int .u32 (mi % 16))).run Tryd.prog W = .ok (.int .u8 68) W := fun W => by rw [hri]; kernel_rfl
                have cv : ∀ W, (convert 5 9 (.int .u8 68)).run Tryd.prog W = .ok (.string ⟨#[68]⟩) W := fun W => by kernel_rfl
                clear h hr hlt hr16 hri
                go_wp2_with fail
                go_roundg g
                case measure => omega
                case rel => exact ⟨m / 16, _, _, rfl, rfl, N, Q6.out⟩
              · have hri : mi % 16 = 14 := by omega
                rw [h] at N
                have N : Hid (mi / 16 = ((m / 16 : Nat) : Int) ∧ Done 16 n g (m / 16) (⟨#[101]⟩ ++ t16)) := N
                have ix : ∀ W, (Instr.index 9 (.string ⟨#[48, 49, 50, 51, 52, 53, 54, 55, 56, 57, 97, 66, 99, 68, 101, 70]⟩) (.int .u32 (mi % 16))).run Tryd.prog W = .ok (.int .u8 101) W := fun W => by rw [hri]; kernel_rfl
                have cv : ∀ W, (convert 5 9 (.int .u8 101)).run Tryd.prog W = .ok (.string ⟨#[101]⟩) W := fun W => by kernel_rfl
                clear h hr hlt hr16 hri
                go_wp2_with fail
                go_roundg g
                case measure => omega
                case rel => exact ⟨m / 16, _, _, rfl, rfl, N, Q6.out⟩
              · have hri : mi % 16 = 15 := by omega
                rw [h] at N
                have N : Hid (mi / 16 = ((m / 16 : Nat) : Int) ∧ Done 16 n g (m / 16) (⟨#[70]⟩ ++ t16)) := N
                have ix : ∀ W, (Instr.index 9 (.string ⟨#[48, 49, 50, 51, 52, 53, 54, 55, 56, 57, 97, 66, 99, 68, 101, 70]⟩) (.int .u32 (mi % 16))).run Tryd.prog W = .ok (.int .u8 70) W := fun W => by rw [hri]; kernel_rfl
                have cv : ∀ W, (convert 5 9 (.int .u8 70)).run Tryd.prog W = .ok (.string ⟨#[70]⟩) W := fun W => by kernel_rfl
                clear h hr hlt hr16 hri
                go_wp2_with fail
                go_roundg g
                case measure => omega
                case rel => exact ⟨m / 16, _, _, rfl, rfl, N, Q6.out⟩
        · obtain ⟨g, rfl⟩ : ∃ g, gk = g + 1 := by
            cases gk with
            | zero => exact absurd (by have := hD.out.2.2.1; simpa using this) hm
            | succ g => exact ⟨g, rfl⟩
          have N : Hid (mi / 8 = ((m / 8 : Nat) : Int) ∧ Done 8 n g (m / 8) (⟨#[letter (m % 8)]⟩ ++ t8)) := ⟨by have := hD.out.1; omega, hD.out.2.step (by decide) hm⟩
          have z1 : (0 : Int) < mi := by have := hD.out.1; omega
          have z2 : mi < 4294967296 := by have := hD.out.1; have := hD.out.2.2.2.1; omega
          have hcv := conv_one wr (letter (m % 8)) (48 + mi % 8) (by rw [hD.out.1]; exact low_of (b := 8) (by decide) (by decide))
          have N2 : Aside (Keeps w (wr.alloc (.cells #[.int .u8 (48 + mi % 8)] 5)) ∧ Four (wr.alloc (.cells #[.int .u8 (48 + mi % 8)] 5)) ab (.int .u8 ((n : Int) / 16777216)) (.int .u8 ((n : Int) / 65536 % 256)) (.int .u8 ((n : Int) / 256 % 256)) (.int .u8 ((n : Int) % 256))) := ⟨Q5.out.1.step (keeps_new _ _), Q5.out.2.below (keeps_new _ _)⟩
          obtain ⟨c, hc⟩ : ∃ c, Hid (letter (m % 8) = c) := ⟨_, rfl⟩
          rw [hc.out] at N hcv
          clear hc hD hm
          go_wp2_with fail
          go_roundg g
          case measure => omega
          case rel => exact ⟨m / 8, _, _, rfl, rfl, N, N2.out⟩
    · obtain ⟨g, rfl⟩ : ∃ g, gk = g + 1 := by
        cases gk with
        | zero => exact absurd (by have := hD.out.2.2.1; simpa using this) hm
        | succ g => exact ⟨g, rfl⟩
      have N : Hid (mi / 10 = ((m / 10 : Nat) : Int) ∧ Done 10 n g (m / 10) (⟨#[letter (m % 10)]⟩ ++ t10)) := ⟨by have := hD.out.1; omega, hD.out.2.step (by decide) hm⟩
      have z1 : (0 : Int) < mi := by have := hD.out.1; omega
      have z2 : mi < 4294967296 := by have := hD.out.1; have := hD.out.2.2.2.1; omega
      have hcv := conv_one wr (letter (m % 10)) (48 + mi % 10) (by rw [hD.out.1]; exact low_of (b := 10) (by decide) (by decide))
      have N2 : Aside (Keeps w (wr.alloc (.cells #[.int .u8 (48 + mi % 10)] 5)) ∧ Four (wr.alloc (.cells #[.int .u8 (48 + mi % 10)] 5)) ab (.int .u8 ((n : Int) / 16777216)) (.int .u8 ((n : Int) / 65536 % 256)) (.int .u8 ((n : Int) / 256 % 256)) (.int .u8 ((n : Int) % 256))) := ⟨Q4.out.1.step (keeps_new _ _), Q4.out.2.below (keeps_new _ _)⟩
      obtain ⟨c, hc⟩ : ∃ c, Hid (letter (m % 10) = c) := ⟨_, rfl⟩
      rw [hc.out] at N hcv
      clear hc hD hm
      go_wp2_with fail
      go_roundg g
      case measure => omega
      case rel => exact ⟨m / 10, _, _, rfl, rfl, N, N2.out⟩
end Go.Proofs.YtahlkhaehlemcaaDoor.quadNumbers
