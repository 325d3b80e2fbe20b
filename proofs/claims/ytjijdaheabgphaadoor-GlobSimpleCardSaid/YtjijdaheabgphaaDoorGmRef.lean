/- What a fault is told as; the document's Lead, Least and Match. -/
import Derived.Test.YtjijdaheabgphaaDoorGlRight
import Derived.Test.YtjijdaheabgphaaDoorGpLead2
import Derived.Test.YtjijdaheabgphaaDoorRefChars2
set_option linter.unusedSimpArgs false
set_option linter.unusedVariables false
namespace Go.Proofs.YtjijdaheabgphaaDoor.globMatches
open Go.RowKit Go.Proofs.YtjijdaheabgphaaDoor.errs Go.Proofs.YtjijdaheabgphaaDoor.rows Go.Proofs.YtjijdaheabgphaaDoor.utf Go.Proofs.YtjijdaheabgphaaDoor.chars Go.Proofs.YtjijdaheabgphaaDoor.gmath Go.Proofs.YtjijdaheabgphaaDoor.glref Go.Proofs.YtjijdaheabgphaaDoor.gparts Go.Proofs.YtjijdaheabgphaaDoor.text

theorem index_at (p : ByteArray) (k : Nat) (h : k < p.size) : ∀ w, (Instr.index 9 (.string p) (.int .i64 k)).run Tryd.prog w = .ok (.int .u8 (p.get! k).toNat) w := fun w => by
  rw [run_index_string (h := Tryd.underlying9), dif_pos (by omega)]
  have hd : k < p.data.size := h
  show Result.ok (Value.int .u8 ((p.data[(k : Int).toNat]'hd).toNat : Int)) w = Result.ok (Value.int .u8 ((p.data[k]!).toNat : Int)) w
  rw [getElem!_pos p.data k hd]
  rfl

set_option maxHeartbeats 2000000 in
theorem told_nil (a : Int) (w : World) :
    Calls Tryd.prog 12 #[.nilIface, .int .i64 0, .int .i64 a] w fun e w' => e = .returned (.bool true) ∧ Below w.heap.size w w' := by
  have C := kind_nil
  go_enter Tryd.func12, Tryd.ntmps12
  go_wp2_with fail
  refine (C _).mono ?_; rintro e w1 ⟨rfl, rfl⟩
  go_wp2_with fail
  go_ret
  exact ⟨rfl, Below.refl _ _⟩
set_option maxHeartbeats 2000000 in
theorem told_fault (bb : Nat) (k a : Int) (w : World) (hL : Laid w) (h : FaultAt w (.iface 64 (.pointer (some ⟨bb, 0, none⟩))) k a .nilIface) :
    Calls Tryd.prog 12 #[.iface 64 (.pointer (some ⟨bb, 0, none⟩)), .int .i64 k, .int .i64 a] w fun e w' => e = .returned (.bool true) ∧ Below w.heap.size w w' := by
  have C := kind_fault _ _ k a w hL h
  have D := fun w' (hb : Below w.heap.size w w') => at_fault _ _ k a w' (hL.below hb (Nat.le_refl _)) (h.below hb (Nat.le_refl _))
  clear hL h
  have kk : (k == k) = true := by simp
  have aa : (a == a) = true := by simp
  go_enter Tryd.func12, Tryd.ntmps12
  go_wp2_with fail
  refine C.mono ?_; rintro e w1 ⟨rfl, h1⟩
  have D := D w1 h1
  have K1 := Lib.hid h1
  clear h1 C
  go_wp2_with fail
  refine D.mono ?_; rintro e w2 ⟨rfl, h2⟩
  have K2 : Aside (Keeps w w2) := Keeps.step K1.out h2
  clear h2 D
  go_wp2_with fail
  go_ret
  exact ⟨rfl, K2.out⟩

set_option maxRecDepth 100000 in
set_option maxHeartbeats 4000000 in
theorem rlead_any (p : ByteArray) (hz : p.size ≤ 1000000) (w : World) :
    Calls Tryd.prog 15 #[.string p] w fun e w' => e = .returned (.string (leadOf p)) ∧ w = w' := by
  have L := Lib.hid (lead_is p)
  have hle := L.out.le
  unfold leadOf
  obtain ⟨n, hn⟩ : ∃ n, Hid (leadN p = n) := ⟨_, rfl⟩
  rw [hn.out] at L hle ⊢
  go_enter Tryd.func15, Tryd.ntmps15
  go_wp2_with fail
  go_loopg [3] n (fun g t wr => ∃ k : Nat, t = .int .i64 k ∧ g + k = n ∧ wr = w)
  case atStart => exact ⟨0, rfl, rfl, rfl⟩
  case round =>
    obtain ⟨k, rfl, hg, rfl⟩ := hrel
    have y0 : (0 : Int) ≤ (k : Int) := by omega
    by_cases hlt : k < n
    · have y1 : (k : Int) < (p.size : Int) := by omega
      have ix := index_at p k (by omega)
      have hs := L.out.free k hlt
      have h1 : ¬ ((p.get! k).toNat = 42 ∨ (p.get! k).toNat = 63) := of_decide_eq_false hs
      generalize (p.get! k).toNat = c at *
      have c1 : ((c : Int) != 42) = true := by rw [bne_iff_ne]; omega
      have c2 : ((c : Int) != 63) = true := by rw [bne_iff_ne]; omega
      have c3 : ((c : Int) == 42) = false := beq_eq_false_iff_ne.2 (by omega)
      have c4 : ((c : Int) == 63) = false := beq_eq_false_iff_ne.2 (by omega)
      clear hs h1
      go_wp2_with fail
      go_roundg (gk - 1)
      case measure => omega
      case rel => exact ⟨k + 1, by go_num, by omega, rfl⟩
    · obtain rfl : k = n := by omega
      have y2 : (k : Int) ≤ (p.size : Int) := by omega
      by_cases he : k < p.size
      · have y1 : (k : Int) < (p.size : Int) := by omega
        have ix := index_at p k he
        have hs := L.out.hit he
        have h1 : (p.get! k).toNat = 42 ∨ (p.get! k).toNat = 63 := of_decide_eq_true hs
        generalize (p.get! k).toNat = c at *
        clear hs he
        rcases h1 with rfl | rfl
        all_goals go_wp2_with fail
        all_goals go_ret
        all_goals exact ⟨rfl, rfl⟩
      · have y1 : ¬ (k : Int) < (p.size : Int) := by omega
        clear he
        go_wp2_with fail
        go_ret
        exact ⟨rfl, rfl⟩

set_option maxRecDepth 100000 in
set_option maxHeartbeats 4000000 in
theorem rleast_any (p : ByteArray) (hp : p.size ≤ 1000000) (w : World) :
    Calls Tryd.prog 17 #[.string p] w fun e w' => e = .returned (.int .i64 (gparts.leastOf p)) ∧ Below w.heap.size w w' := by
  have CK := rcheck_any p hp w
  obtain ⟨m, hm⟩ : ∃ m, Hid (gparts.leastOf p = m) := ⟨_, rfl⟩
  rw [hm.out]
  cases hf : firstBad p with
  | some i =>
    have hc : ¬ (checkOf p).1 = 0 := by
      unfold checkOf
      by_cases h : 1024 < p.size
      · rw [if_pos h]; decide
      · rw [if_neg h, hf]; show ¬ ((12 : Int) = 0); decide
    have M : Aside (m = 0) := by
      show m = 0
      rw [← hm.out]; unfold gparts.leastOf; rw [if_neg hc]
    have hk0 : ((checkOf p).1 == 0) = false := beq_eq_false_iff_ne.2 hc
    generalize (checkOf p).1 = k at *
    generalize (checkOf p).2 = a at *
    go_enter Tryd.func17, Tryd.ntmps17
    go_wp2_with fail
    refine CK.mono ?_; rintro e w1 ⟨rfl, hb1⟩
    obtain ⟨v1, W1, hv1, hs1⟩ := bytes_new p hp w1
    have C1 : Calls Tryd.prog 23 #[v1] W1 fun e w' => ∃ a n c, e = .returned (.tuple #[.slice a n c, .int .i64 i]) ∧ Below W1.heap.size W1 w' := by
      have := ref.chars_wrong_slice p v1 W1 hs1.out.1 hp
      rw [hf] at this
      exact this
    have hv1 := hv1.out
    have K1 : Aside (Keeps w W1) := Keeps.step hb1 hs1.out.2
    clear hs1 hb1 CK hf
    go_wp2_with fail
    refine C1.mono ?_; rintro e w2 ⟨a2, n2, c2, rfl, hb2⟩
    have K2 : Aside (Keeps w w2) := K1.out.step hb2
    clear hb2 C1 hv1
    go_wp2_with fail
    go_loopg [7, 8] 1 (fun g t u wr => t = .int .i64 0 ∧ u = .int .i64 0 ∧ wr = w2)
    case atStart => exact ⟨rfl, rfl, rfl⟩
    case round =>
      obtain ⟨rfl, rfl, rfl⟩ := hrel
      by_cases hn : 0 < n2
      · have hd : (0 : Int) < (n2 : Int) := by omega
        clear hn
        go_wp2_with fail
        go_ret
        exact ⟨by rw [M.out]; rfl, K2.out⟩
      · have hd : ¬ (0 : Int) < (n2 : Int) := by omega
        clear hn
        go_wp2_with fail
        go_ret
        exact ⟨by rw [M.out]; rfl, K2.out⟩
  | none =>
    by_cases hc : (checkOf p).1 = 0
    · have hc2 : checkOf p = (0, 0) := by
        unfold checkOf at hc ⊢
        by_cases h : 1024 < p.size
        · rw [if_pos h] at hc; exact absurd hc (by decide)
        · rw [if_neg h, hf]
      rw [hc2] at CK
      have CK : Calls Tryd.prog 9 #[.string p] w fun e w' => e = .returned (.tuple #[.int .i64 0, .int .i64 0]) ∧ Below w.heap.size w w' := CK
      have M : Aside (cnt (all p) (all p).length = m) := by
        show _ = m
        rw [← hm.out]; unfold gparts.leastOf cnt; rw [if_pos hc, List.take_length]
      have hal := all_le p
      obtain ⟨n, hn⟩ : ∃ n, Hid ((all p).length = n) := ⟨_, rfl⟩
      rw [hn.out] at M hal
      clear hc hc2
      go_enter Tryd.func17, Tryd.ntmps17
      go_wp2_with fail
      refine CK.mono ?_; rintro e w1 ⟨rfl, hb1⟩
      obtain ⟨v1, W1, hv1, hs1⟩ := bytes_new p hp w1
      have C1 := chars_right hf v1 W1 hs1.out.1 hp
      have hv1 := hv1.out
      have K1 : Aside (Keeps w W1) := Keeps.step hb1 hs1.out.2
      clear hs1 hb1 CK hf
      go_wp2_with fail
      refine C1.mono ?_; rintro e w2 ⟨x2, rfl, h2⟩
      have K2 : Aside (Keeps w w2 ∧ Nums w2 x2 (all p)) := ⟨K1.out.step h2.out.2, h2.out.1⟩
      obtain ⟨a2, c2, e2, q1, q2, -⟩ := h2.out.1
      subst e2
      rw [hn.out] at q1 K2 ⊢
      clear h2 C1 hv1 K1
      go_wp2_with fail
      go_loopg [7, 8] n (fun g t u wr => ∃ (k c : Nat), t = .int .i64 c ∧ u = .int .i64 k ∧ g + k = n ∧ c ≤ k ∧ wr = w2 ∧ Aside (cnt (all p) k = c))
      case atStart => exact ⟨0, 0, rfl, rfl, rfl, Nat.le_refl _, rfl, rfl⟩
      case round =>
        obtain ⟨k, c, rfl, rfl, hg, hck, rfl, hA⟩ := hrel
        by_cases hlt : k < n
        · have y0 : (0 : Int) ≤ (k : Int) := by omega
          have y1 : (k : Int) < (n : Int) := by omega
          have y2 : (0 : Int) ≤ (c : Int) := by omega
          have y3 : (c : Int) ≤ 1000000 := by omega
          obtain ⟨a3, c3, e3, -, -, q3⟩ := K2.out.2
          obtain ⟨rfl, -, rfl⟩ : a2 = a3 ∧ n = (all p).length ∧ c2 = c3 := by simpa using e3
          obtain ⟨b, o, rfl, q5⟩ := q3 (by rw [hn.out]; omega)
          have q4 := q5 k (by rw [hn.out]; exact hlt)
          have CS := Lib.hid (cnt_step (all p) k (by rw [hn.out]; exact hlt))
          obtain ⟨x, hx⟩ : ∃ x, Hid ((all p).getD k 0 = x) := ⟨_, rfl⟩
          rw [hx.out] at q4
          clear q3 q5 e3
          by_cases h42 : x = 42
          · subst h42
            have V : Aside (cnt (all p) (k + 1) = c) := by
              show _ = c
              rw [CS.out, hx.out, if_pos rfl, hA.out]; rfl
            go_wp2_with fail
            go_roundg (gk - 1)
            case measure => omega
            case rel => exact ⟨k + 1, c, rfl, by go_num, by omega, by omega, rfl, V.out⟩
          · have V : Aside (cnt (all p) (k + 1) = c + 1) := by
              show _ = c + 1
              rw [CS.out, hx.out, if_neg h42, hA.out]
            have ne1 : (x != 42) = true := by rw [bne_iff_ne]; exact h42
            have ne2 : (x == 42) = false := beq_eq_false_iff_ne.2 h42
            clear h42
            go_wp2_with fail
            go_roundg (gk - 1)
            case measure => omega
            case rel => exact ⟨k + 1, c + 1, by go_num, by go_num, by omega, by omega, rfl, V.out⟩
        · obtain rfl : k = n := by omega
          have y1 : ¬ (k : Int) < (k : Int) := by omega
          have V : Aside (c = m) := hA.out.symm.trans M.out
          go_wp2_with fail
          go_ret
          exact ⟨by rw [← V.out]; rfl, K2.out.1⟩
    · have M : Aside (m = 0) := by
        show m = 0
        rw [← hm.out]; unfold gparts.leastOf; rw [if_neg hc]
      have hk0 : ((checkOf p).1 == 0) = false := beq_eq_false_iff_ne.2 hc
      generalize (checkOf p).1 = k at *
      generalize (checkOf p).2 = a at *
      go_enter Tryd.func17, Tryd.ntmps17
      go_wp2_with fail
      refine CK.mono ?_; rintro e w1 ⟨rfl, hb1⟩
      obtain ⟨v1, W1, hv1, hs1⟩ := bytes_new p hp w1
      have C1 := chars_right hf v1 W1 hs1.out.1 hp
      have hv1 := hv1.out
      have K1 : Aside (Keeps w W1) := Keeps.step hb1 hs1.out.2
      clear hs1 hb1 CK hf
      go_wp2_with fail
      refine C1.mono ?_; rintro e w2 ⟨x2, rfl, h2⟩
      have K2 : Aside (Keeps w w2) := K1.out.step h2.out.2
      obtain ⟨a2, c2, e2, -, -, -⟩ := h2.out.1
      subst e2
      generalize (all p).length = n2 at *
      clear h2 C1 hv1 K1
      go_wp2_with fail
      go_loopg [7, 8] 1 (fun g t u wr => t = .int .i64 0 ∧ u = .int .i64 0 ∧ wr = w2)
      case atStart => exact ⟨rfl, rfl, rfl⟩
      case round =>
        obtain ⟨rfl, rfl, rfl⟩ := hrel
        by_cases hn : 0 < n2
        · have hd : (0 : Int) < (n2 : Int) := by omega
          clear hn
          go_wp2_with fail
          go_ret
          exact ⟨by rw [M.out]; rfl, K2.out⟩
        · have hd : ¬ (0 : Int) < (n2 : Int) := by omega
          clear hn
          go_wp2_with fail
          go_ret
          exact ⟨by rw [M.out]; rfl, K2.out⟩
theorem rmatch_any (fold : Bool) (p s : ByteArray) (hp : p.size ≤ 1000000) (hs : s.size ≤ 1000000) (w : World) :
    Calls Tryd.prog 11 #[.string p, .string s, .bool fold] w fun e w' => e = .returned (.bool (matchOf fold p s)) ∧ Below w.heap.size w w' := by
  by_cases hc : (checkOf p).1 = 0
  · have hf : firstBad p = none ∧ checkOf p = (0, 0) := by
      unfold checkOf at hc ⊢
      by_cases h : 1024 < p.size
      · rw [if_pos h] at hc; exact absurd hc (by decide)
      · rw [if_neg h] at hc ⊢
        cases h2 : firstBad p with
        | none => exact ⟨rfl, rfl⟩
        | some i => rw [h2] at hc; exact absurd hc (show ¬ ((12 : Int) = 0) by decide)
    unfold matchOf
    cases hs2 : firstBad s with
    | none =>
      rw [decide_eq_true hc]
      exact rmatch_right fold p s hp hs hf.2 hf.1 hs2 w
    | some i =>
      rw [show (decide ((checkOf p).1 = 0) && (some i).isNone && lang fold (all p) (all s)) = false by simp]
      exact rmatch_text fold p s hp hs hf.2 hs2 w
  · unfold matchOf
    rw [decide_eq_false hc]
    exact rmatch_wrong fold p s hp hs hc w
end Go.Proofs.YtjijdaheabgphaaDoor.globMatches
