/- The document's Words. -/
import Derived.Test.YtmgdkdohadaknaaDoorPkWords
import Derived.Deep.DeepCutAuto
set_option linter.unusedSimpArgs false
set_option linter.unusedVariables false
namespace Go.Proofs.YtmgdkdohadaknaaDoor.pick
open Go.RowKit Go.Proofs.YtmgdkdohadaknaaDoor.errs Go.Proofs.YtmgdkdohadaknaaDoor.wire Go.Proofs.YtmgdkdohadaknaaDoor.build

theorem app_list (a b : ByteArray) : (a ++ b).data.toList = a.data.toList ++ b.data.toList := by rw [ByteArray.data_append, Array.toList_append]
theorem list_size (a : ByteArray) : a.data.toList.length = a.size := Array.length_toList

set_option maxRecDepth 100000 in
set_option maxHeartbeats 4000000 in
theorem rwords_any (x : An) (hx : (wordsL x).length ≤ 140737488355328) (v : Value) (w : World) (h : AnsV w v x) :
    Calls Tryd.prog 17 #[v] w fun e w' => e = .returned (.string (wordsT x)) ∧ Below w.heap.size w w' := by
  obtain ⟨s0, rfl, hs0⟩ := h
  obtain ⟨a, cap, rfl⟩ := hs0.form
  obtain ⟨k, l, r⟩ := x
  simp only at hs0 ⊢
  obtain ⟨W1, hW1⟩ : ∃ W1, w.alloc (.cells #[.int .i64 k, .slice a l.length cap, .int .i64 r] 29) = W1 := ⟨_, rfl⟩
  obtain ⟨W2, hW2⟩ : ∃ W2, W1.alloc (.cells #[.string ⟨#[114, 101, 106, 101, 99, 116]⟩, .string ⟨#[98, 114, 111, 119, 115, 101, 114]⟩, .string ⟨#[111, 112, 101, 110]⟩, .string ⟨#[99, 104, 111, 111, 115, 101]⟩] 9) = W2 := ⟨_, rfl⟩
  obtain ⟨W3, hW3⟩ : ∃ W3, W2.alloc (.cells #[.string ⟨#[117, 114, 108]⟩, .string ⟨#[117, 115, 101, 114]⟩, .string ⟨#[104, 111, 115, 116]⟩, .string ⟨#[110, 111, 98, 111, 100, 121]⟩, .string ⟨#[117, 110, 107, 110, 111, 119, 110]⟩, .string ⟨#[114, 117, 108, 101, 115]⟩, .string ⟨#[111, 102, 102]⟩, .string ⟨#[111, 110, 101]⟩, .string ⟨#[115, 101, 118, 101, 114, 97, 108]⟩] 9) = W3 := ⟨_, rfl⟩
  have e1 : W1.heap.size = w.heap.size + 1 := by rw [← hW1]; simp
  have e2 : W2.heap.size = w.heap.size + 2 := by rw [← hW2]; simp [e1]
  have b1 : Below w.heap.size w W1 := by rw [← hW1]; exact (Below.refl _ w).alloc (Nat.le_refl _) _
  have b2 : Below W1.heap.size W1 W2 := by rw [← hW2]; exact (Below.refl _ W1).alloc (Nat.le_refl _) _
  have b3 : Below W2.heap.size W2 W3 := by rw [← hW3]; exact (Below.refl _ W2).alloc (Nat.le_refl _) _
  have k1 : Blk W1 w.heap.size #[.int .i64 k, .slice a l.length cap, .int .i64 r] 29 := by rw [← hW1]; exact blk_new w _ _
  have k2 : Blk W2 (w.heap.size + 1) #[.string ⟨#[114, 101, 106, 101, 99, 116]⟩, .string ⟨#[98, 114, 111, 119, 115, 101, 114]⟩, .string ⟨#[111, 112, 101, 110]⟩, .string ⟨#[99, 104, 111, 111, 115, 101]⟩] 9 := by rw [← hW2, ← e1]; exact blk_new W1 _ _
  have k3 : Blk W3 (w.heap.size + 2) #[.string ⟨#[117, 114, 108]⟩, .string ⟨#[117, 115, 101, 114]⟩, .string ⟨#[104, 111, 115, 116]⟩, .string ⟨#[110, 111, 98, 111, 100, 121]⟩, .string ⟨#[117, 110, 107, 110, 111, 119, 110]⟩, .string ⟨#[114, 117, 108, 101, 115]⟩, .string ⟨#[111, 102, 102]⟩, .string ⟨#[111, 110, 101]⟩, .string ⟨#[115, 101, 118, 101, 114, 97, 108]⟩] 9 := by rw [← hW3, ← e2]; exact blk_new W2 _ _
  have q2 := k2.below b3 (by omega)
  have q1 := (k1.below b2 (by omega)).below b3 (by omega)
  have b23 := b2.trans (b3.mono b2.size)
  have bb := b1.trans (b23.mono b1.size)
  have hs := hs0.below bb
  have kc : Hid (∀ n, n < 4 → W3.cell? ⟨w.heap.size + 1, n, none⟩ = some (.string (kindTab.getD (n + 1) ⟨#[]⟩))) := fun n hn => by
    rw [q2.get]
    rcases (show n = 0 ∨ n = 1 ∨ n = 2 ∨ n = 3 by omega) with rfl | rfl | rfl | rfl <;> rfl
  have rc : Hid (∀ n, n < 9 → W3.cell? ⟨w.heap.size + 1 + 1, n, none⟩ = some (.string (reasonTab.getD (n + 1) ⟨#[]⟩))) := fun n hn => by
    refine (k3.get n).trans ?_
    rcases (show n = 0 ∨ n = 1 ∨ n = 2 ∨ n = 3 ∨ n = 4 ∨ n = 5 ∨ n = 6 ∨ n = 7 ∨ n = 8 by omega) with rfl | rfl | rfl | rfl | rfl | rfl | rfl | rfl | rfl <;> rfl
  have u0 := q1.get 0
  have u1 := q1.get 1
  have u2 := q1.get 2
  simp only [List.getElem?_toArray, List.getElem?_cons_zero, List.getElem?_cons_succ] at u0 u1 u2
  have HWW := Lib.hid (And.intro hW1 (And.intro hW2 hW3))
  have HB := Lib.hid bb
  have HS := Lib.hid hs
  clear e1 e2 b1 b2 b3 k1 k2 k3 q1 q2 b23 bb hs hs0 hW1 hW2 hW3
  obtain ⟨res, hres⟩ : ∃ res, Hid (wordsT ⟨k, l, r⟩ = res) := ⟨_, rfl⟩
  rw [hres.out]
  have HR : Hid (res.data.toList = ((kindT k ++ ⟨#[58]⟩) ++ reasonT r).data.toList ++ tailL l) := by show _ = _; rw [← hres.out]; rfl
  have HX : Hid ((((kindT k ++ ⟨#[58]⟩) ++ reasonT r).data.toList ++ tailL l).length ≤ 140737488355328) := hx
  have TK := Lib.hid (tailL_take l)
  have TL := Lib.hid (tailL_le l)
  have s1 := kindT_size k
  have s2 := reasonT_size r
  obtain ⟨n, hnn⟩ : ∃ n, Hid (l.length = n) := ⟨_, rfl⟩
  have hnc : n ≤ 9223372036854775807 := by have := HS.out.at; have h2 := this.2.1; have h3 := this.2.2.1; have := hnn.out; omega
  rw [hnn.out] at u1 HWW HS ⊢
  clear hx hres
  obtain ⟨H, hH⟩ : ∃ H, Hid (H = ((kindT k ++ ⟨#[58]⟩) ++ reasonT r).data.toList) := ⟨_, rfl⟩
  rw [← hH.out] at HR HX
  rcases (show (¬ (1 : Int) ≤ k ∨ ((1 : Int) ≤ k ∧ ¬ k ≤ 4)) ∨ ∃ i : Nat, i < 4 ∧ k = (i : Int) + 1 by
    by_cases h1 : (1 : Int) ≤ k
    · by_cases h2 : k ≤ 4
      · exact .inr ⟨(k - 1).toNat, by omega, by omega⟩
      · exact .inl (.inr ⟨h1, h2⟩)
    · exact .inl (.inl h1)) with (hk1 | ⟨hk1, hk2⟩) | ⟨i, hi, hki⟩
  · have EK : Hid (kindT k = ⟨#[63]⟩) := if_pos (by omega)
    rw [EK.out] at hH
    rcases (show (¬ (1 : Int) ≤ r ∨ ((1 : Int) ≤ r ∧ ¬ r ≤ 9)) ∨ ∃ j : Nat, j < 9 ∧ r = (j : Int) + 1 by
      by_cases h1 : (1 : Int) ≤ r
      · by_cases h2 : r ≤ 9
        · exact .inr ⟨(r - 1).toNat, by omega, by omega⟩
        · exact .inl (.inr ⟨h1, h2⟩)
      · exact .inl (.inl h1)) with (hr1 | ⟨hr1, hr2⟩) | ⟨j, hj, hrj⟩
    · have ER : Hid (reasonT r = ⟨#[63]⟩) := if_pos (by omega)
      rw [ER.out] at hH
      clear s1 s2 kc rc EK ER
      go_enter Tryd.func17, Tryd.ntmps17
      go_upto_region 2 with fail
      rw [HWW.out.1, HWW.out.2.1, HWW.out.2.2]
      clear HWW
      go_wp2_with fail
      go_loopg [5, 6] n (fun g t5 t6 wr => ∃ (z : ByteArray) (i : Nat), t5 = .string z ∧ t6 = .int .i64 (i : Int) ∧ i ≤ n ∧ Hid (i + g = n) ∧ Hid (z.data.toList = H ++ tailL (l.take i)) ∧ W3 = wr)
      case atStart =>
        exact ⟨_, 0, rfl, rfl, Nat.zero_le _, Nat.zero_add _, by show _ = _; rw [hH.out]; simp [ByteArray.data_append, tailL], rfl⟩
      case round =>
        obtain ⟨z, i, rfl, rfl, hi, hg, hz, rfl⟩ := hrel
        have q0 : (0 : Int) ≤ (i : Int) := by omega
        by_cases hlt : i < n
        · have q1 : (i : Int) < (n : Int) := by omega
          obtain ⟨b1, o1, rfl, c1⟩ := (HS.out.at).2.2.2 i hlt
          have HT := Lib.hid (TK.out i (by rw [hnn.out]; exact hlt))
          have h1 := HX.out
          have h2 := TL.out (i + 1)
          rw [List.length_append] at h1
          have h3 := congrArg List.length HT.out
          rw [List.length_append, List.length_cons, list_size] at h3
          have h4 := congrArg List.length hz.out
          rw [list_size, List.length_append] at h4
          generalize l.getD i ⟨#[]⟩ = s at *
          have w1 : ¬ 9223372036854775807 < (⟨#[32]⟩ : ByteArray).size + s.size := by rw [show (⟨#[32]⟩ : ByteArray).size = 1 from rfl]; omega
          have w2 : ¬ 9223372036854775807 < z.size + ((⟨#[32]⟩ : ByteArray) ++ s).size := by rw [ByteArray.size_append, show (⟨#[32]⟩ : ByteArray).size = 1 from rfl]; omega
          have w3 : ¬ 9223372036854775807 < 1 + s.size := by omega
          have w4 : ¬ 9223372036854775807 < z.size + (1 + s.size) := by omega
          have HZ : Hid ((z ++ ((⟨#[32]⟩ : ByteArray) ++ s)).data.toList = H ++ tailL (l.take (i + 1))) := by
            show _ = _
            rw [app_list, app_list, hz.out, HT.out, List.append_assoc]
            rfl
          clear h1 h2 h3 h4 hz HT
          go_wp2_with fail
          go_roundg (gk - 1)
          case measure => have := hg.out; omega
          case rel => exact ⟨_, i + 1, rfl, by go_num, by omega, by have := hg.out; show _ = _; omega, HZ.out, rfl⟩
        · obtain rfl : i = n := by omega
          have q1 : ¬ (i : Int) < (i : Int) := by omega
          have hzz : z = res := by
            refine ByteArray.ext (Array.ext' ?_)
            rw [HR.out, hz.out, List.take_of_length_le (by rw [hnn.out]; exact Nat.le_refl _)]
          clear hz
          subst hzz
          go_wp2_with fail
          go_ret
          exact ⟨rfl, HB.out⟩
    · have ER : Hid (reasonT r = ⟨#[63]⟩) := if_pos (by omega)
      rw [ER.out] at hH
      clear s1 s2 kc rc EK ER
      go_enter Tryd.func17, Tryd.ntmps17
      go_upto_region 2 with fail
      rw [HWW.out.1, HWW.out.2.1, HWW.out.2.2]
      clear HWW
      go_wp2_with fail
      go_loopg [5, 6] n (fun g t5 t6 wr => ∃ (z : ByteArray) (i : Nat), t5 = .string z ∧ t6 = .int .i64 (i : Int) ∧ i ≤ n ∧ Hid (i + g = n) ∧ Hid (z.data.toList = H ++ tailL (l.take i)) ∧ W3 = wr)
      case atStart =>
        exact ⟨_, 0, rfl, rfl, Nat.zero_le _, Nat.zero_add _, by show _ = _; rw [hH.out]; simp [ByteArray.data_append, tailL], rfl⟩
      case round =>
        obtain ⟨z, i, rfl, rfl, hi, hg, hz, rfl⟩ := hrel
        have q0 : (0 : Int) ≤ (i : Int) := by omega
        by_cases hlt : i < n
        · have q1 : (i : Int) < (n : Int) := by omega
          obtain ⟨b1, o1, rfl, c1⟩ := (HS.out.at).2.2.2 i hlt
          have HT := Lib.hid (TK.out i (by rw [hnn.out]; exact hlt))
          have h1 := HX.out
          have h2 := TL.out (i + 1)
          rw [List.length_append] at h1
          have h3 := congrArg List.length HT.out
          rw [List.length_append, List.length_cons, list_size] at h3
          have h4 := congrArg List.length hz.out
          rw [list_size, List.length_append] at h4
          generalize l.getD i ⟨#[]⟩ = s at *
          have w1 : ¬ 9223372036854775807 < (⟨#[32]⟩ : ByteArray).size + s.size := by rw [show (⟨#[32]⟩ : ByteArray).size = 1 from rfl]; omega
          have w2 : ¬ 9223372036854775807 < z.size + ((⟨#[32]⟩ : ByteArray) ++ s).size := by rw [ByteArray.size_append, show (⟨#[32]⟩ : ByteArray).size = 1 from rfl]; omega
          have w3 : ¬ 9223372036854775807 < 1 + s.size := by omega
          have w4 : ¬ 9223372036854775807 < z.size + (1 + s.size) := by omega
          have HZ : Hid ((z ++ ((⟨#[32]⟩ : ByteArray) ++ s)).data.toList = H ++ tailL (l.take (i + 1))) := by
            show _ = _
            rw [app_list, app_list, hz.out, HT.out, List.append_assoc]
            rfl
          clear h1 h2 h3 h4 hz HT
          go_wp2_with fail
          go_roundg (gk - 1)
          case measure => have := hg.out; omega
          case rel => exact ⟨_, i + 1, rfl, by go_num, by omega, by have := hg.out; show _ = _; omega, HZ.out, rfl⟩
        · obtain rfl : i = n := by omega
          have q1 : ¬ (i : Int) < (i : Int) := by omega
          have hzz : z = res := by
            refine ByteArray.ext (Array.ext' ?_)
            rw [HR.out, hz.out, List.take_of_length_le (by rw [hnn.out]; exact Nat.le_refl _)]
          clear hz
          subst hzz
          go_wp2_with fail
          go_ret
          exact ⟨rfl, HB.out⟩
    · have ER0 : Hid (reasonT r = reasonTab.getD (j + 1) ⟨#[]⟩) := by
        show _ = _
        unfold reasonT
        rw [if_neg (by omega), hrj, show ((j : Int) + 1).toNat = j + 1 by omega]
      have d0 := rc.out j hj
      obtain ⟨R, hR⟩ : ∃ R, reasonTab.getD (j + 1) ⟨#[]⟩ = R := ⟨_, rfl⟩
      rw [hR] at ER0 d0
      have ER : Hid (reasonT r = R) := ER0.out
      have hs2 : R.size ≤ 7 := by rw [← ER.out]; exact s2
      have x1 : (1 : Int) ≤ r := by omega
      have x2 : r ≤ 9 := by omega
      have x3 : IntKind.i64.wrap (r - 1) = (j : Int) := by rw [IntWalk.i64_in _ (by omega)]; omega
      have x4 : (0 : Int) ≤ (j : Int) := by omega
      have x5 : (j : Int) < 9 := by omega
      clear hrj hR ER0
      rw [ER.out] at hH
      have w1 : ¬ 9223372036854775807 < (⟨#[58]⟩ : ByteArray).size + R.size := by rw [show (⟨#[58]⟩ : ByteArray).size = 1 from rfl]; omega
      have w2 : ¬ 9223372036854775807 < 1 + R.size := by omega
      have w3 : ¬ 9223372036854775807 < (⟨#[63]⟩ : ByteArray).size + ((⟨#[58]⟩ : ByteArray) ++ R).size := by rw [ByteArray.size_append, show (⟨#[58]⟩ : ByteArray).size = 1 from rfl, show (⟨#[63]⟩ : ByteArray).size = 1 from rfl]; omega
      have w4 : ¬ 9223372036854775807 < 1 + (1 + R.size) := by omega
      clear s1 s2 kc rc EK ER
      go_enter Tryd.func17, Tryd.ntmps17
      go_upto_region 2 with fail
      rw [HWW.out.1, HWW.out.2.1, HWW.out.2.2]
      clear HWW
      go_wp2_with fail
      go_loopg [5, 6] n (fun g t5 t6 wr => ∃ (z : ByteArray) (i : Nat), t5 = .string z ∧ t6 = .int .i64 (i : Int) ∧ i ≤ n ∧ Hid (i + g = n) ∧ Hid (z.data.toList = H ++ tailL (l.take i)) ∧ W3 = wr)
      case atStart =>
        exact ⟨_, 0, rfl, rfl, Nat.zero_le _, Nat.zero_add _, by show _ = _; rw [hH.out]; simp [ByteArray.data_append, tailL], rfl⟩
      case round =>
        obtain ⟨z, i, rfl, rfl, hi, hg, hz, rfl⟩ := hrel
        have q0 : (0 : Int) ≤ (i : Int) := by omega
        by_cases hlt : i < n
        · have q1 : (i : Int) < (n : Int) := by omega
          obtain ⟨b1, o1, rfl, c1⟩ := (HS.out.at).2.2.2 i hlt
          have HT := Lib.hid (TK.out i (by rw [hnn.out]; exact hlt))
          have h1 := HX.out
          have h2 := TL.out (i + 1)
          rw [List.length_append] at h1
          have h3 := congrArg List.length HT.out
          rw [List.length_append, List.length_cons, list_size] at h3
          have h4 := congrArg List.length hz.out
          rw [list_size, List.length_append] at h4
          generalize l.getD i ⟨#[]⟩ = s at *
          have w1 : ¬ 9223372036854775807 < (⟨#[32]⟩ : ByteArray).size + s.size := by rw [show (⟨#[32]⟩ : ByteArray).size = 1 from rfl]; omega
          have w2 : ¬ 9223372036854775807 < z.size + ((⟨#[32]⟩ : ByteArray) ++ s).size := by rw [ByteArray.size_append, show (⟨#[32]⟩ : ByteArray).size = 1 from rfl]; omega
          have w3 : ¬ 9223372036854775807 < 1 + s.size := by omega
          have w4 : ¬ 9223372036854775807 < z.size + (1 + s.size) := by omega
          have HZ : Hid ((z ++ ((⟨#[32]⟩ : ByteArray) ++ s)).data.toList = H ++ tailL (l.take (i + 1))) := by
            show _ = _
            rw [app_list, app_list, hz.out, HT.out, List.append_assoc]
            rfl
          clear h1 h2 h3 h4 hz HT
          go_wp2_with fail
          go_roundg (gk - 1)
          case measure => have := hg.out; omega
          case rel => exact ⟨_, i + 1, rfl, by go_num, by omega, by have := hg.out; show _ = _; omega, HZ.out, rfl⟩
        · obtain rfl : i = n := by omega
          have q1 : ¬ (i : Int) < (i : Int) := by omega
          have hzz : z = res := by
            refine ByteArray.ext (Array.ext' ?_)
            rw [HR.out, hz.out, List.take_of_length_le (by rw [hnn.out]; exact Nat.le_refl _)]
          clear hz
          subst hzz
          go_wp2_with fail
          go_ret
          exact ⟨rfl, HB.out⟩
  · have EK : Hid (kindT k = ⟨#[63]⟩) := if_pos (by omega)
    rw [EK.out] at hH
    rcases (show (¬ (1 : Int) ≤ r ∨ ((1 : Int) ≤ r ∧ ¬ r ≤ 9)) ∨ ∃ j : Nat, j < 9 ∧ r = (j : Int) + 1 by
      by_cases h1 : (1 : Int) ≤ r
      · by_cases h2 : r ≤ 9
        · exact .inr ⟨(r - 1).toNat, by omega, by omega⟩
        · exact .inl (.inr ⟨h1, h2⟩)
      · exact .inl (.inl h1)) with (hr1 | ⟨hr1, hr2⟩) | ⟨j, hj, hrj⟩
    · have ER : Hid (reasonT r = ⟨#[63]⟩) := if_pos (by omega)
      rw [ER.out] at hH
      clear s1 s2 kc rc EK ER
      go_enter Tryd.func17, Tryd.ntmps17
      go_upto_region 2 with fail
      rw [HWW.out.1, HWW.out.2.1, HWW.out.2.2]
      clear HWW
      go_wp2_with fail
      go_loopg [5, 6] n (fun g t5 t6 wr => ∃ (z : ByteArray) (i : Nat), t5 = .string z ∧ t6 = .int .i64 (i : Int) ∧ i ≤ n ∧ Hid (i + g = n) ∧ Hid (z.data.toList = H ++ tailL (l.take i)) ∧ W3 = wr)
      case atStart =>
        exact ⟨_, 0, rfl, rfl, Nat.zero_le _, Nat.zero_add _, by show _ = _; rw [hH.out]; simp [ByteArray.data_append, tailL], rfl⟩
      case round =>
        obtain ⟨z, i, rfl, rfl, hi, hg, hz, rfl⟩ := hrel
        have q0 : (0 : Int) ≤ (i : Int) := by omega
        by_cases hlt : i < n
        · have q1 : (i : Int) < (n : Int) := by omega
          obtain ⟨b1, o1, rfl, c1⟩ := (HS.out.at).2.2.2 i hlt
          have HT := Lib.hid (TK.out i (by rw [hnn.out]; exact hlt))
          have h1 := HX.out
          have h2 := TL.out (i + 1)
          rw [List.length_append] at h1
          have h3 := congrArg List.length HT.out
          rw [List.length_append, List.length_cons, list_size] at h3
          have h4 := congrArg List.length hz.out
          rw [list_size, List.length_append] at h4
          generalize l.getD i ⟨#[]⟩ = s at *
          have w1 : ¬ 9223372036854775807 < (⟨#[32]⟩ : ByteArray).size + s.size := by rw [show (⟨#[32]⟩ : ByteArray).size = 1 from rfl]; omega
          have w2 : ¬ 9223372036854775807 < z.size + ((⟨#[32]⟩ : ByteArray) ++ s).size := by rw [ByteArray.size_append, show (⟨#[32]⟩ : ByteArray).size = 1 from rfl]; omega
          have w3 : ¬ 9223372036854775807 < 1 + s.size := by omega
          have w4 : ¬ 9223372036854775807 < z.size + (1 + s.size) := by omega
          have HZ : Hid ((z ++ ((⟨#[32]⟩ : ByteArray) ++ s)).data.toList = H ++ tailL (l.take (i + 1))) := by
            show _ = _
            rw [app_list, app_list, hz.out, HT.out, List.append_assoc]
            rfl
          clear h1 h2 h3 h4 hz HT
          go_wp2_with fail
          go_roundg (gk - 1)
          case measure => have := hg.out; omega
          case rel => exact ⟨_, i + 1, rfl, by go_num, by omega, by have := hg.out; show _ = _; omega, HZ.out, rfl⟩
        · obtain rfl : i = n := by omega
          have q1 : ¬ (i : Int) < (i : Int) := by omega
          have hzz : z = res := by
            refine ByteArray.ext (Array.ext' ?_)
            rw [HR.out, hz.out, List.take_of_length_le (by rw [hnn.out]; exact Nat.le_refl _)]
          clear hz
          subst hzz
          go_wp2_with fail
          go_ret
          exact ⟨rfl, HB.out⟩
    · have ER : Hid (reasonT r = ⟨#[63]⟩) := if_pos (by omega)
      rw [ER.out] at hH
      clear s1 s2 kc rc EK ER
      go_enter Tryd.func17, Tryd.ntmps17
      go_upto_region 2 with fail
      rw [HWW.out.1, HWW.out.2.1, HWW.out.2.2]
      clear HWW
      go_wp2_with fail
      go_loopg [5, 6] n (fun g t5 t6 wr => ∃ (z : ByteArray) (i : Nat), t5 = .string z ∧ t6 = .int .i64 (i : Int) ∧ i ≤ n ∧ Hid (i + g = n) ∧ Hid (z.data.toList = H ++ tailL (l.take i)) ∧ W3 = wr)
      case atStart =>
        exact ⟨_, 0, rfl, rfl, Nat.zero_le _, Nat.zero_add _, by show _ = _; rw [hH.out]; simp [ByteArray.data_append, tailL], rfl⟩
      case round =>
        obtain ⟨z, i, rfl, rfl, hi, hg, hz, rfl⟩ := hrel
        have q0 : (0 : Int) ≤ (i : Int) := by omega
        by_cases hlt : i < n
        · have q1 : (i : Int) < (n : Int) := by omega
          obtain ⟨b1, o1, rfl, c1⟩ := (HS.out.at).2.2.2 i hlt
          have HT := Lib.hid (TK.out i (by rw [hnn.out]; exact hlt))
          have h1 := HX.out
          have h2 := TL.out (i + 1)
          rw [List.length_append] at h1
          have h3 := congrArg List.length HT.out
          rw [List.length_append, List.length_cons, list_size] at h3
          have h4 := congrArg List.length hz.out
          rw [list_size, List.length_append] at h4
          generalize l.getD i ⟨#[]⟩ = s at *
          have w1 : ¬ 9223372036854775807 < (⟨#[32]⟩ : ByteArray).size + s.size := by rw [show (⟨#[32]⟩ : ByteArray).size = 1 from rfl]; omega
          have w2 : ¬ 9223372036854775807 < z.size + ((⟨#[32]⟩ : ByteArray) ++ s).size := by rw [ByteArray.size_append, show (⟨#[32]⟩ : ByteArray).size = 1 from rfl]; omega
          have w3 : ¬ 9223372036854775807 < 1 + s.size := by omega
          have w4 : ¬ 9223372036854775807 < z.size + (1 + s.size) := by omega
          have HZ : Hid ((z ++ ((⟨#[32]⟩ : ByteArray) ++ s)).data.toList = H ++ tailL (l.take (i + 1))) := by
            show _ = _
            rw [app_list, app_list, hz.out, HT.out, List.append_assoc]
            rfl
          clear h1 h2 h3 h4 hz HT
          go_wp2_with fail
          go_roundg (gk - 1)
          case measure => have := hg.out; omega
          case rel => exact ⟨_, i + 1, rfl, by go_num, by omega, by have := hg.out; show _ = _; omega, HZ.out, rfl⟩
        · obtain rfl : i = n := by omega
          have q1 : ¬ (i : Int) < (i : Int) := by omega
          have hzz : z = res := by
            refine ByteArray.ext (Array.ext' ?_)
            rw [HR.out, hz.out, List.take_of_length_le (by rw [hnn.out]; exact Nat.le_refl _)]
          clear hz
          subst hzz
          go_wp2_with fail
          go_ret
          exact ⟨rfl, HB.out⟩
    · have ER0 : Hid (reasonT r = reasonTab.getD (j + 1) ⟨#[]⟩) := by
        show _ = _
        unfold reasonT
        rw [if_neg (by omega), hrj, show ((j : Int) + 1).toNat = j + 1 by omega]
      have d0 := rc.out j hj
      obtain ⟨R, hR⟩ : ∃ R, reasonTab.getD (j + 1) ⟨#[]⟩ = R := ⟨_, rfl⟩
      rw [hR] at ER0 d0
      have ER : Hid (reasonT r = R) := ER0.out
      have hs2 : R.size ≤ 7 := by rw [← ER.out]; exact s2
      have x1 : (1 : Int) ≤ r := by omega
      have x2 : r ≤ 9 := by omega
      have x3 : IntKind.i64.wrap (r - 1) = (j : Int) := by rw [IntWalk.i64_in _ (by omega)]; omega
      have x4 : (0 : Int) ≤ (j : Int) := by omega
      have x5 : (j : Int) < 9 := by omega
      clear hrj hR ER0
      rw [ER.out] at hH
      have w1 : ¬ 9223372036854775807 < (⟨#[58]⟩ : ByteArray).size + R.size := by rw [show (⟨#[58]⟩ : ByteArray).size = 1 from rfl]; omega
      have w2 : ¬ 9223372036854775807 < 1 + R.size := by omega
      have w3 : ¬ 9223372036854775807 < (⟨#[63]⟩ : ByteArray).size + ((⟨#[58]⟩ : ByteArray) ++ R).size := by rw [ByteArray.size_append, show (⟨#[58]⟩ : ByteArray).size = 1 from rfl, show (⟨#[63]⟩ : ByteArray).size = 1 from rfl]; omega
      have w4 : ¬ 9223372036854775807 < 1 + (1 + R.size) := by omega
      clear s1 s2 kc rc EK ER
      go_enter Tryd.func17, Tryd.ntmps17
      go_upto_region 2 with fail
      rw [HWW.out.1, HWW.out.2.1, HWW.out.2.2]
      clear HWW
      go_wp2_with fail
      go_loopg [5, 6] n (fun g t5 t6 wr => ∃ (z : ByteArray) (i : Nat), t5 = .string z ∧ t6 = .int .i64 (i : Int) ∧ i ≤ n ∧ Hid (i + g = n) ∧ Hid (z.data.toList = H ++ tailL (l.take i)) ∧ W3 = wr)
      case atStart =>
        exact ⟨_, 0, rfl, rfl, Nat.zero_le _, Nat.zero_add _, by show _ = _; rw [hH.out]; simp [ByteArray.data_append, tailL], rfl⟩
      case round =>
        obtain ⟨z, i, rfl, rfl, hi, hg, hz, rfl⟩ := hrel
        have q0 : (0 : Int) ≤ (i : Int) := by omega
        by_cases hlt : i < n
        · have q1 : (i : Int) < (n : Int) := by omega
          obtain ⟨b1, o1, rfl, c1⟩ := (HS.out.at).2.2.2 i hlt
          have HT := Lib.hid (TK.out i (by rw [hnn.out]; exact hlt))
          have h1 := HX.out
          have h2 := TL.out (i + 1)
          rw [List.length_append] at h1
          have h3 := congrArg List.length HT.out
          rw [List.length_append, List.length_cons, list_size] at h3
          have h4 := congrArg List.length hz.out
          rw [list_size, List.length_append] at h4
          generalize l.getD i ⟨#[]⟩ = s at *
          have w1 : ¬ 9223372036854775807 < (⟨#[32]⟩ : ByteArray).size + s.size := by rw [show (⟨#[32]⟩ : ByteArray).size = 1 from rfl]; omega
          have w2 : ¬ 9223372036854775807 < z.size + ((⟨#[32]⟩ : ByteArray) ++ s).size := by rw [ByteArray.size_append, show (⟨#[32]⟩ : ByteArray).size = 1 from rfl]; omega
          have w3 : ¬ 9223372036854775807 < 1 + s.size := by omega
          have w4 : ¬ 9223372036854775807 < z.size + (1 + s.size) := by omega
          have HZ : Hid ((z ++ ((⟨#[32]⟩ : ByteArray) ++ s)).data.toList = H ++ tailL (l.take (i + 1))) := by
            show _ = _
            rw [app_list, app_list, hz.out, HT.out, List.append_assoc]
            rfl
          clear h1 h2 h3 h4 hz HT
          go_wp2_with fail
          go_roundg (gk - 1)
          case measure => have := hg.out; omega
          case rel => exact ⟨_, i + 1, rfl, by go_num, by omega, by have := hg.out; show _ = _; omega, HZ.out, rfl⟩
        · obtain rfl : i = n := by omega
          have q1 : ¬ (i : Int) < (i : Int) := by omega
          have hzz : z = res := by
            refine ByteArray.ext (Array.ext' ?_)
            rw [HR.out, hz.out, List.take_of_length_le (by rw [hnn.out]; exact Nat.le_refl _)]
          clear hz
          subst hzz
          go_wp2_with fail
          go_ret
          exact ⟨rfl, HB.out⟩
  · have EK0 : Hid (kindT k = kindTab.getD (i + 1) ⟨#[]⟩) := by
      show _ = _
      unfold kindT
      rw [if_neg (by omega), hki, show ((i : Int) + 1).toNat = i + 1 by omega]
    have c0 := kc.out i hi
    obtain ⟨K, hK⟩ : ∃ K, kindTab.getD (i + 1) ⟨#[]⟩ = K := ⟨_, rfl⟩
    rw [hK] at EK0 c0
    have EK : Hid (kindT k = K) := EK0.out
    have hs1 : K.size ≤ 7 := by rw [← EK.out]; exact s1
    have y1 : (1 : Int) ≤ k := by omega
    have y2 : k ≤ 4 := by omega
    have y3 : IntKind.i64.wrap (k - 1) = (i : Int) := by rw [IntWalk.i64_in _ (by omega)]; omega
    have y4 : (0 : Int) ≤ (i : Int) := by omega
    have y5 : (i : Int) < 4 := by omega
    clear hki hK EK0
    rw [EK.out] at hH
    rcases (show (¬ (1 : Int) ≤ r ∨ ((1 : Int) ≤ r ∧ ¬ r ≤ 9)) ∨ ∃ j : Nat, j < 9 ∧ r = (j : Int) + 1 by
      by_cases h1 : (1 : Int) ≤ r
      · by_cases h2 : r ≤ 9
        · exact .inr ⟨(r - 1).toNat, by omega, by omega⟩
        · exact .inl (.inr ⟨h1, h2⟩)
      · exact .inl (.inl h1)) with (hr1 | ⟨hr1, hr2⟩) | ⟨j, hj, hrj⟩
    · have ER : Hid (reasonT r = ⟨#[63]⟩) := if_pos (by omega)
      rw [ER.out] at hH
      have w1 : ¬ 9223372036854775807 < K.size + (⟨#[58, 63]⟩ : ByteArray).size := by rw [show (⟨#[58, 63]⟩ : ByteArray).size = 2 from rfl]; omega
      have w2 : ¬ 9223372036854775807 < K.size + 2 := by omega
      clear s1 s2 kc rc EK ER
      go_enter Tryd.func17, Tryd.ntmps17
      go_upto_region 2 with fail
      rw [HWW.out.1, HWW.out.2.1, HWW.out.2.2]
      clear HWW
      go_wp2_with fail
      go_loopg [5, 6] n (fun g t5 t6 wr => ∃ (z : ByteArray) (i : Nat), t5 = .string z ∧ t6 = .int .i64 (i : Int) ∧ i ≤ n ∧ Hid (i + g = n) ∧ Hid (z.data.toList = H ++ tailL (l.take i)) ∧ W3 = wr)
      case atStart =>
        exact ⟨_, 0, rfl, rfl, Nat.zero_le _, Nat.zero_add _, by show _ = _; rw [hH.out]; simp [ByteArray.data_append, tailL], rfl⟩
      case round =>
        obtain ⟨z, i, rfl, rfl, hi, hg, hz, rfl⟩ := hrel
        have q0 : (0 : Int) ≤ (i : Int) := by omega
        by_cases hlt : i < n
        · have q1 : (i : Int) < (n : Int) := by omega
          obtain ⟨b1, o1, rfl, c1⟩ := (HS.out.at).2.2.2 i hlt
          have HT := Lib.hid (TK.out i (by rw [hnn.out]; exact hlt))
          have h1 := HX.out
          have h2 := TL.out (i + 1)
          rw [List.length_append] at h1
          have h3 := congrArg List.length HT.out
          rw [List.length_append, List.length_cons, list_size] at h3
          have h4 := congrArg List.length hz.out
          rw [list_size, List.length_append] at h4
          generalize l.getD i ⟨#[]⟩ = s at *
          have w1 : ¬ 9223372036854775807 < (⟨#[32]⟩ : ByteArray).size + s.size := by rw [show (⟨#[32]⟩ : ByteArray).size = 1 from rfl]; omega
          have w2 : ¬ 9223372036854775807 < z.size + ((⟨#[32]⟩ : ByteArray) ++ s).size := by rw [ByteArray.size_append, show (⟨#[32]⟩ : ByteArray).size = 1 from rfl]; omega
          have w3 : ¬ 9223372036854775807 < 1 + s.size := by omega
          have w4 : ¬ 9223372036854775807 < z.size + (1 + s.size) := by omega
          have HZ : Hid ((z ++ ((⟨#[32]⟩ : ByteArray) ++ s)).data.toList = H ++ tailL (l.take (i + 1))) := by
            show _ = _
            rw [app_list, app_list, hz.out, HT.out, List.append_assoc]
            rfl
          clear h1 h2 h3 h4 hz HT
          go_wp2_with fail
          go_roundg (gk - 1)
          case measure => have := hg.out; omega
          case rel => exact ⟨_, i + 1, rfl, by go_num, by omega, by have := hg.out; show _ = _; omega, HZ.out, rfl⟩
        · obtain rfl : i = n := by omega
          have q1 : ¬ (i : Int) < (i : Int) := by omega
          have hzz : z = res := by
            refine ByteArray.ext (Array.ext' ?_)
            rw [HR.out, hz.out, List.take_of_length_le (by rw [hnn.out]; exact Nat.le_refl _)]
          clear hz
          subst hzz
          go_wp2_with fail
          go_ret
          exact ⟨rfl, HB.out⟩
    · have ER : Hid (reasonT r = ⟨#[63]⟩) := if_pos (by omega)
      rw [ER.out] at hH
      have w1 : ¬ 9223372036854775807 < K.size + (⟨#[58, 63]⟩ : ByteArray).size := by rw [show (⟨#[58, 63]⟩ : ByteArray).size = 2 from rfl]; omega
      have w2 : ¬ 9223372036854775807 < K.size + 2 := by omega
      clear s1 s2 kc rc EK ER
      go_enter Tryd.func17, Tryd.ntmps17
      go_upto_region 2 with fail
      rw [HWW.out.1, HWW.out.2.1, HWW.out.2.2]
      clear HWW
      go_wp2_with fail
      go_loopg [5, 6] n (fun g t5 t6 wr => ∃ (z : ByteArray) (i : Nat), t5 = .string z ∧ t6 = .int .i64 (i : Int) ∧ i ≤ n ∧ Hid (i + g = n) ∧ Hid (z.data.toList = H ++ tailL (l.take i)) ∧ W3 = wr)
      case atStart =>
        exact ⟨_, 0, rfl, rfl, Nat.zero_le _, Nat.zero_add _, by show _ = _; rw [hH.out]; simp [ByteArray.data_append, tailL], rfl⟩
      case round =>
        obtain ⟨z, i, rfl, rfl, hi, hg, hz, rfl⟩ := hrel
        have q0 : (0 : Int) ≤ (i : Int) := by omega
        by_cases hlt : i < n
        · have q1 : (i : Int) < (n : Int) := by omega
          obtain ⟨b1, o1, rfl, c1⟩ := (HS.out.at).2.2.2 i hlt
          have HT := Lib.hid (TK.out i (by rw [hnn.out]; exact hlt))
          have h1 := HX.out
          have h2 := TL.out (i + 1)
          rw [List.length_append] at h1
          have h3 := congrArg List.length HT.out
          rw [List.length_append, List.length_cons, list_size] at h3
          have h4 := congrArg List.length hz.out
          rw [list_size, List.length_append] at h4
          generalize l.getD i ⟨#[]⟩ = s at *
          have w1 : ¬ 9223372036854775807 < (⟨#[32]⟩ : ByteArray).size + s.size := by rw [show (⟨#[32]⟩ : ByteArray).size = 1 from rfl]; omega
          have w2 : ¬ 9223372036854775807 < z.size + ((⟨#[32]⟩ : ByteArray) ++ s).size := by rw [ByteArray.size_append, show (⟨#[32]⟩ : ByteArray).size = 1 from rfl]; omega
          have w3 : ¬ 9223372036854775807 < 1 + s.size := by omega
          have w4 : ¬ 9223372036854775807 < z.size + (1 + s.size) := by omega
          have HZ : Hid ((z ++ ((⟨#[32]⟩ : ByteArray) ++ s)).data.toList = H ++ tailL (l.take (i + 1))) := by
            show _ = _
            rw [app_list, app_list, hz.out, HT.out, List.append_assoc]
            rfl
          clear h1 h2 h3 h4 hz HT
          go_wp2_with fail
          go_roundg (gk - 1)
          case measure => have := hg.out; omega
          case rel => exact ⟨_, i + 1, rfl, by go_num, by omega, by have := hg.out; show _ = _; omega, HZ.out, rfl⟩
        · obtain rfl : i = n := by omega
          have q1 : ¬ (i : Int) < (i : Int) := by omega
          have hzz : z = res := by
            refine ByteArray.ext (Array.ext' ?_)
            rw [HR.out, hz.out, List.take_of_length_le (by rw [hnn.out]; exact Nat.le_refl _)]
          clear hz
          subst hzz
          go_wp2_with fail
          go_ret
          exact ⟨rfl, HB.out⟩
    · have ER0 : Hid (reasonT r = reasonTab.getD (j + 1) ⟨#[]⟩) := by
        show _ = _
        unfold reasonT
        rw [if_neg (by omega), hrj, show ((j : Int) + 1).toNat = j + 1 by omega]
      have d0 := rc.out j hj
      obtain ⟨R, hR⟩ : ∃ R, reasonTab.getD (j + 1) ⟨#[]⟩ = R := ⟨_, rfl⟩
      rw [hR] at ER0 d0
      have ER : Hid (reasonT r = R) := ER0.out
      have hs2 : R.size ≤ 7 := by rw [← ER.out]; exact s2
      have x1 : (1 : Int) ≤ r := by omega
      have x2 : r ≤ 9 := by omega
      have x3 : IntKind.i64.wrap (r - 1) = (j : Int) := by rw [IntWalk.i64_in _ (by omega)]; omega
      have x4 : (0 : Int) ≤ (j : Int) := by omega
      have x5 : (j : Int) < 9 := by omega
      clear hrj hR ER0
      rw [ER.out] at hH
      have w1 : ¬ 9223372036854775807 < (⟨#[58]⟩ : ByteArray).size + R.size := by rw [show (⟨#[58]⟩ : ByteArray).size = 1 from rfl]; omega
      have w2 : ¬ 9223372036854775807 < 1 + R.size := by omega
      have w3 : ¬ 9223372036854775807 < K.size + ((⟨#[58]⟩ : ByteArray) ++ R).size := by rw [ByteArray.size_append, show (⟨#[58]⟩ : ByteArray).size = 1 from rfl]; omega
      have w4 : ¬ 9223372036854775807 < K.size + (1 + R.size) := by omega
      clear s1 s2 kc rc EK ER
      go_enter Tryd.func17, Tryd.ntmps17
      go_upto_region 2 with fail
      rw [HWW.out.1, HWW.out.2.1, HWW.out.2.2]
      clear HWW
      go_wp2_with fail
      go_loopg [5, 6] n (fun g t5 t6 wr => ∃ (z : ByteArray) (i : Nat), t5 = .string z ∧ t6 = .int .i64 (i : Int) ∧ i ≤ n ∧ Hid (i + g = n) ∧ Hid (z.data.toList = H ++ tailL (l.take i)) ∧ W3 = wr)
      case atStart =>
        exact ⟨_, 0, rfl, rfl, Nat.zero_le _, Nat.zero_add _, by show _ = _; rw [hH.out]; simp [ByteArray.data_append, tailL], rfl⟩
      case round =>
        obtain ⟨z, i, rfl, rfl, hi, hg, hz, rfl⟩ := hrel
        have q0 : (0 : Int) ≤ (i : Int) := by omega
        by_cases hlt : i < n
        · have q1 : (i : Int) < (n : Int) := by omega
          obtain ⟨b1, o1, rfl, c1⟩ := (HS.out.at).2.2.2 i hlt
          have HT := Lib.hid (TK.out i (by rw [hnn.out]; exact hlt))
          have h1 := HX.out
          have h2 := TL.out (i + 1)
          rw [List.length_append] at h1
          have h3 := congrArg List.length HT.out
          rw [List.length_append, List.length_cons, list_size] at h3
          have h4 := congrArg List.length hz.out
          rw [list_size, List.length_append] at h4
          generalize l.getD i ⟨#[]⟩ = s at *
          have w1 : ¬ 9223372036854775807 < (⟨#[32]⟩ : ByteArray).size + s.size := by rw [show (⟨#[32]⟩ : ByteArray).size = 1 from rfl]; omega
          have w2 : ¬ 9223372036854775807 < z.size + ((⟨#[32]⟩ : ByteArray) ++ s).size := by rw [ByteArray.size_append, show (⟨#[32]⟩ : ByteArray).size = 1 from rfl]; omega
          have w3 : ¬ 9223372036854775807 < 1 + s.size := by omega
          have w4 : ¬ 9223372036854775807 < z.size + (1 + s.size) := by omega
          have HZ : Hid ((z ++ ((⟨#[32]⟩ : ByteArray) ++ s)).data.toList = H ++ tailL (l.take (i + 1))) := by
            show _ = _
            rw [app_list, app_list, hz.out, HT.out, List.append_assoc]
            rfl
          clear h1 h2 h3 h4 hz HT
          go_wp2_with fail
          go_roundg (gk - 1)
          case measure => have := hg.out; omega
          case rel => exact ⟨_, i + 1, rfl, by go_num, by omega, by have := hg.out; show _ = _; omega, HZ.out, rfl⟩
        · obtain rfl : i = n := by omega
          have q1 : ¬ (i : Int) < (i : Int) := by omega
          have hzz : z = res := by
            refine ByteArray.ext (Array.ext' ?_)
            rw [HR.out, hz.out, List.take_of_length_le (by rw [hnn.out]; exact Nat.le_refl _)]
          clear hz
          subst hzz
          go_wp2_with fail
          go_ret
          exact ⟨rfl, HB.out⟩
end Go.Proofs.YtmgdkdohadaknaaDoor.pick
