/- The law on responses: for any input it returns true. -/
import Derived.Test.YtelofhplpeeplaaDoorWrRjudge
import Derived.Test.YtelofhplpeeplaaDoorWrSpeaks
import Derived.Test.YtelofhplpeeplaaDoorWrBits
import Derived.Test.YtelofhplpeeplaaDoorWrBlk
import Derived.Test.YtelofhplpeeplaaDoorMdCls
import Derived.Laws.MakeOwn
import Derived.Deep.DeepCutAuto
import Derived.Deep.RegionHeld3
set_option linter.unusedSimpArgs false
set_option linter.unusedVariables false
namespace Go.Proofs.YtelofhplpeeplaaDoor.wireJudges
open Go.RowKit Go.Proofs.YtelofhplpeeplaaDoor.errs Go.Proofs.YtelofhplpeeplaaDoor.media Go.Proofs.YtelofhplpeeplaaDoor.wire Go.Proofs.YtelofhplpeeplaaDoor.mcls

theorem laid_set {w : World} {g : Nat} {cs : Array Value} (hb : Blk w g cs 25) {n : Int} (h0 : cs[0]? = some (.int .u64 n)) (hL : Laid w) (i : Nat) (u : Value) : Laid (w.setCell ⟨g, i, none⟩ u) := by
  unfold Laid at *
  by_cases hg : g = 0
  · have := hb.get 0
    rw [h0, hg, hL] at this
    cases this
  · rw [World.cell?_setCell_other _ _ _ _ (by intro e; injection e; omega)]
    exact hL
theorem info_part8 : ∃ i, Tryd.prog.info? 5 = some i ∧ i.zero = some (.int .u8 0) ∧ i.size = 1 ∧ i.bytes = 1 := by
  have h : (Tryd.prog.info? 5).map (fun i => (i.zero, i.size, i.bytes)) = some (some (.int .u8 0), 1, 1) := by kernel_rfl
  cases hi : Tryd.prog.info? 5 with
  | none => rw [hi] at h; cases h
  | some i =>
    rw [hi] at h
    simp only [Option.map_some, Option.some.injEq, Prod.mk.injEq] at h
    exact ⟨i, rfl, h.1, h.2.1, h.2.2⟩
/-- How many bytes the second body has. -/
def mk5 (q : Nat) : Nat := if q = 0 then 0 else if q = 1 then 131072 else if q = 2 then 131073 else if q = 3 then 1048576 else 1048577
set_option maxRecDepth 100000 in
set_option maxHeartbeats 4000000 in
theorem main (ap : Bool) (id st : Int) (rd tm : Bool) (ty ca : ByteArray) (a : Option Addr) (n c : Nat) (size : Int) (w : World) (h1 : ty.size ≤ 1500) (h2 : n ≤ 2000000) (hL : Laid w) :
    Calls Tryd.prog 3 #[.bool ap, .agg #[.int .u64 id, .int .i64 st, .bool rd, .bool tm, .string ty, .string ca, .slice a n c], .int .i64 size] w fun e w' => e = .returned (.bool true) ∧ Below w.heap.size w w' := by
  obtain ⟨W1, hW1⟩ : ∃ W1, w.alloc (.cells #[.int .u64 id, .int .i64 st, .bool rd, .bool tm, .string ty, .string ca, .slice a n c] 25) = W1 := ⟨_, rfl⟩
  have B1 : Aside (Below w.heap.size w W1 ∧ Blk W1 w.heap.size #[.int .u64 id, .int .i64 st, .bool rd, .bool tm, .string ty, .string ca, .slice a n c] 25 ∧ Laid W1 ∧ w.heap.size < W1.heap.size) := by
    subst hW1
    exact ⟨(Below.refl _ w).alloc (Nat.le_refl _) _, blk_new w _ _, hL.alloc _, by simp⟩
  have S := speaks_any W1 B1.out.2.2.1
  have J1 := fun w => judge_any ap id st rd tm ty ca a n c (by omega) w
  have R1 := fun w => rjudge_any ap id st rd tm ty ca a n c (by omega) w
  have J2 := fun bb (m : Nat) w => judge_any ap id st rd tm ty ca (some ⟨bb, 0, none⟩) m m (by omega) w
  have R2 := fun bb (m : Nat) w => rjudge_any ap id st rd tm ty ca (some ⟨bb, 0, none⟩) m m (by omega) w
  obtain ⟨k, hk⟩ : ∃ k, jk ap st rd tm ty n = k := ⟨_, rfl⟩
  rw [hk] at J1 R1
  have HW1 := Lib.hid hW1
  have x1 : ¬ (1500 : Int) < (ty.size : Int) := by omega
  have x2 : ¬ (2000000 : Int) < (n : Int) := by omega
  clear hk hL hW1 h1
  go_enter Tryd.func3, Tryd.ntmps3
  go_wp2_with fail
  rw [HW1.out]
  refine S.mono ?_; rintro e w1 ⟨rfl, hb⟩
  have B2 : Aside (Below w.heap.size w w1 ∧ Blk w1 w.heap.size #[.int .u64 id, .int .i64 st, .bool rd, .bool tm, .string ty, .string ca, .slice a n c] 25 ∧ Laid w1) :=
    ⟨B1.out.1.trans (hb.mono B1.out.1.size), B1.out.2.1.below hb B1.out.2.2.2, B1.out.2.2.1.below hb (Nat.le_refl _)⟩
  clear hb S B1 HW1
  obtain ⟨rb, hrb⟩ : ∃ rb, Hid (rb = w.heap.size) := ⟨_, rfl⟩
  rw [← hrb.out] at B2
  rw [← hrb.out]
  simp only [← hrb.out]
  have c0 := B2.out.2.1.get 0
  have c1 := B2.out.2.1.get 1
  have c2 := B2.out.2.1.get 2
  have c3 := B2.out.2.1.get 3
  have c4 := B2.out.2.1.get 4
  have c5 := B2.out.2.1.get 5
  have c6 := B2.out.2.1.get 6
  simp only [List.getElem?_toArray, List.getElem?_cons_zero, List.getElem?_cons_succ] at c0 c1 c2 c3 c4 c5 c6
  go_wp2_with fail
  refine (J1 _).mono ?_; rintro e w2 ⟨x, rfl, hx, hb⟩
  have B3 : Aside (Below rb w w2 ∧ Blk w2 rb #[.int .u64 id, .int .i64 st, .bool rd, .bool tm, .string ty, .string ca, .slice a n c] 25 ∧ Laid w2 ∧ rb < w2.heap.size) :=
    ⟨B2.out.1.trans (hb.mono (Nat.le_of_lt B2.out.2.1.lt)), B2.out.2.1.below hb B2.out.2.1.lt, B2.out.2.2.below hb (Nat.le_refl _), Nat.lt_of_lt_of_le B2.out.2.1.lt hb.size⟩
  have HC : Aside (∀ W, Kp w2 W → W.cell? ⟨rb, 0, none⟩ = some (.int .u64 id) ∧ W.cell? ⟨rb, 1, none⟩ = some (.int .i64 st) ∧ W.cell? ⟨rb, 2, none⟩ = some (.bool rd) ∧ W.cell? ⟨rb, 3, none⟩ = some (.bool tm) ∧ W.cell? ⟨rb, 4, none⟩ = some (.string ty) ∧ W.cell? ⟨rb, 5, none⟩ = some (.string ca) ∧ W.cell? ⟨rb, 6, none⟩ = some (.slice a n c)) := fun W hW => by
    have X := B3.out.2.1.below hW B3.out.2.1.lt
    exact ⟨X.get 0, X.get 1, X.get 2, X.get 3, X.get 4, X.get 5, X.get 6⟩
  have HR : Aside (∀ W, Kp w2 W → Calls Tryd.prog 10 #[.bool ap, .agg #[.int .u64 id, .int .i64 st, .bool rd, .bool tm, .string ty, .string ca, .slice a n c]] W fun e w' => e = .returned (.int .i64 (k : Int)) ∧ Kp w2 w') := fun W hW => (R1 W).mono fun _ _ ⟨h1, h2⟩ => ⟨h1, Kp.step hW h2⟩
  clear hb B2 J1 R1 c0 c1 c2 c3 c4 c5 c6
  go_upto_region 6 with fail
  go_cut [37] (fun t37 wx => t37 = .bool false ∧ Below rb w wx ∧ Blk wx rb #[.int .u64 id, .int .i64 st, .bool rd, .bool tm, .string ty, .string ca, .slice a n c] 25 ∧ Laid wx)
  case first =>
    rcases hx with ⟨hk, rfl⟩ | ⟨hk, v, hf⟩
    · have HK : Aside (∀ W, Kp w2 W → Calls Tryd.prog 9 #[.nilIface] W fun e w' => e = .returned (.int .i64 (k : Int)) ∧ Kp w2 w') := fun W hW => (kind_nil W).mono fun _ _ ⟨h1, h2⟩ => ⟨by rw [h1, hk]; rfl, h2 ▸ hW⟩
      clear hk
      refine cq_region (by kernel_rfl) (by kernel_rfl) ?_
      repeat (first
        | (refine cq_skip rfl ?_; simp only [Act.put, List.setIfInBounds_toArray, List.set_cons_zero, List.set_cons_succ])
        | (refine cq_op rfl ?_; apply Exists.intro; refine ⟨fun W hW => ?_, ?_⟩; (focus (obtain ⟨l0, l1, l2, l3, l4, l5, l6⟩ := HC.out W hW; go_simp; try rfl)); simp only [Act.put, List.setIfInBounds_toArray, List.set_cons_zero, List.set_cons_succ])
        | (refine cq_call rfl 9 #[.nilIface] (.int .i64 (k : Int)) ?_ HK.out ?_; (focus (intro W; go_simp; done)); simp only [Act.put, List.setIfInBounds_toArray, List.set_cons_zero, List.set_cons_succ])
        | (refine cq_call rfl 10 #[.bool ap, .agg #[.int .u64 id, .int .i64 st, .bool rd, .bool tm, .string ty, .string ca, .slice a n c]] (.int .i64 (k : Int)) ?_ HR.out ?_; (focus (intro W; go_simp; done)); simp only [Act.put, List.setIfInBounds_toArray, List.set_cons_zero, List.set_cons_succ]))
      refine wpQuiet_nil ?_
      intro w5 k5
      have KE : Hid (Below rb w w5 ∧ Blk w5 rb #[.int .u64 id, .int .i64 st, .bool rd, .bool tm, .string ty, .string ca, .slice a n c] 25 ∧ Laid w5) := ⟨B3.out.1.trans (Below.mono k5 (Nat.le_of_lt B3.out.2.2.2)), B3.out.2.1.below k5 B3.out.2.1.lt, B3.out.2.2.1.below k5 (Nat.le_refl _)⟩
      clear HC HR HK B3 k5
      go_wp2_with fail
      go_meet
      exact ⟨rfl, KE.out⟩
    · obtain ⟨b, rfl, f1⟩ := hf
      have HF : Aside (FaultAt w2 (.iface 65 (.pointer (some ⟨b, 0, none⟩))) (k : Int) 0 v) := ⟨b, rfl, f1⟩
      have HK : Aside (∀ W, Kp w2 W → Calls Tryd.prog 9 #[.iface 65 (.pointer (some ⟨b, 0, none⟩))] W fun e w' => e = .returned (.int .i64 (k : Int)) ∧ Kp w2 w') := fun W hW => kind_keeps B3.out.2.2.1 HF.out hW
      have HA : Aside (∀ W, Kp w2 W → Calls Tryd.prog 11 #[.iface 65 (.pointer (some ⟨b, 0, none⟩))] W fun e w' => e = .returned (.int .i64 0) ∧ Kp w2 w') := fun W hW => at_keeps B3.out.2.2.1 HF.out hW
      clear hk f1
      refine cq_region (by kernel_rfl) (by kernel_rfl) ?_
      repeat (first
        | (refine cq_skip rfl ?_; simp only [Act.put, List.setIfInBounds_toArray, List.set_cons_zero, List.set_cons_succ])
        | (refine cq_op rfl ?_; apply Exists.intro; refine ⟨fun W hW => ?_, ?_⟩; (focus (obtain ⟨l0, l1, l2, l3, l4, l5, l6⟩ := HC.out W hW; go_simp; try rfl)); simp only [Act.put, List.setIfInBounds_toArray, List.set_cons_zero, List.set_cons_succ])
        | (refine cq_call rfl 9 #[.iface 65 (.pointer (some ⟨b, 0, none⟩))] (.int .i64 (k : Int)) ?_ HK.out ?_; (focus (intro W; go_simp; done)); simp only [Act.put, List.setIfInBounds_toArray, List.set_cons_zero, List.set_cons_succ])
        | (refine cq_call rfl 11 #[.iface 65 (.pointer (some ⟨b, 0, none⟩))] (.int .i64 0) ?_ HA.out ?_; (focus (intro W; go_simp; done)); simp only [Act.put, List.setIfInBounds_toArray, List.set_cons_zero, List.set_cons_succ])
        | (refine cq_call rfl 10 #[.bool ap, .agg #[.int .u64 id, .int .i64 st, .bool rd, .bool tm, .string ty, .string ca, .slice a n c]] (.int .i64 (k : Int)) ?_ HR.out ?_; (focus (intro W; go_simp; done)); simp only [Act.put, List.setIfInBounds_toArray, List.set_cons_zero, List.set_cons_succ]))
      refine wpQuiet_nil ?_
      intro w5 k5
      have KE : Hid (Below rb w w5 ∧ Blk w5 rb #[.int .u64 id, .int .i64 st, .bool rd, .bool tm, .string ty, .string ca, .slice a n c] 25 ∧ Laid w5) := ⟨B3.out.1.trans (Below.mono k5 (Nat.le_of_lt B3.out.2.2.2)), B3.out.2.1.below k5 B3.out.2.1.lt, B3.out.2.2.1.below k5 (Nat.le_refl _)⟩
      clear HC HR HK HA HF B3 k5
      go_wp2_with fail
      go_meet
      exact ⟨rfl, KE.out⟩
  case rest =>
    obtain ⟨rfl, g1, g2, g3⟩ := hcut
    have B4 : Aside (Below rb w wc ∧ Blk wc rb #[.int .u64 id, .int .i64 st, .bool rd, .bool tm, .string ty, .string ca, .slice a n c] 25 ∧ Laid wc) := ⟨g1, g2, g3⟩
    clear g1 g2 g3 B3 HC HR hx
    obtain ⟨d, hd, hd2⟩ : ∃ d : Nat, bits .and .i64 size 255 = (d : Int) ∧ d ≤ 255 := ⟨(size % 256).toNat, by rw [i64_and255]; omega, by omega⟩
    obtain ⟨q, hq⟩ : ∃ q, d % 5 = q := ⟨_, rfl⟩
    have hq5 : q < 5 := by omega
    have hqi : (d : Int) % 5 = (q : Int) := by omega
    have y0 : (0 : Int) ≤ (q : Int) := by omega
    have y1 : (q : Int) < 5 := by omega
    obtain ⟨m, hm⟩ : ∃ m, mk5 q = m := ⟨_, rfl⟩
    have hm5 : m ≤ 1048577 := by rw [← hm]; unfold mk5; (repeat' split) <;> omega
    have hcell : (wc.alloc (.cells #[.int .i64 0, .int .i64 131072, .int .i64 131073, .int .i64 1048576, .int .i64 1048577] 3)).cell? ⟨wc.heap.size, q, none⟩ = some (.int .i64 (m : Int)) := by
      rw [(blk_new wc _ _).get q, ← hm]
      rcases (show q = 0 ∨ q = 1 ∨ q = 2 ∨ q = 3 ∨ q = 4 by omega) with h | h | h | h | h <;> (subst h; rfl)
    obtain ⟨i8, hi8, hz8, hs8, hy8⟩ := info_part8
    obtain ⟨Z, hmk⟩ : ∃ Z : Array Value, ∀ w, (Instr.makeSlice 23 (.int .i64 (m : Int)) (.int .i64 (m : Int))).run Tryd.prog w = .ok (.slice (some ⟨w.heap.size, 0, none⟩) m m) (w.alloc (.cells Z 5)) := ⟨_, fun w => run_make w 23 5 i8 _ Tryd.underlying23 hi8 hz8 .i64 .i64 (m : Int) (m : Int) (by omega) (by omega) (by rw [hy8]; omega) (by omega)⟩
    have c6 := B4.out.2.1.get 6
    have f6 := B4.out.2.1.frz 6
    simp only [List.getElem?_toArray, List.getElem?_cons_zero, List.getElem?_cons_succ] at c6
    have l6 := B4.out.2.1.lt
    clear hm hi8 hz8 hs8 hy8 hd2 hq5
    go_upto_region 9 with fail
    obtain ⟨W9, hW9⟩ : ∃ W9, ((wc.setCell ⟨rb, 6, none⟩ (.slice (some ⟨wc.heap.size + 1, 0, none⟩) m m)).alloc (.cells #[.int .i64 0, .int .i64 131072, .int .i64 131073, .int .i64 1048576, .int .i64 1048577] 3)).alloc (.cells Z 5) = W9 := ⟨_, rfl⟩
    rw [hW9]
    have JJ := J2 (wc.heap.size + 1) m
    have RR := R2 (wc.heap.size + 1) m
    have B9 : Aside (Below rb w W9 ∧ Blk W9 rb #[.int .u64 id, .int .i64 st, .bool rd, .bool tm, .string ty, .string ca, .slice (some ⟨wc.heap.size + 1, 0, none⟩) m m] 25 ∧ Laid W9) := by
      subst hW9
      refine ⟨((B4.out.1.setCell (p := ⟨rb, 6, none⟩) (Nat.le_refl _) _).alloc (by simp; omega) _).alloc (by simp; omega) _, ((B4.out.2.1.set 6 _).alloc _).alloc _, ((laid_set B4.out.2.1 rfl B4.out.2.2 6 _).alloc _).alloc _⟩
    clear hW9 hcell hmk c6 f6 l6 B4 J2 R2 hqi hq y0 y1 hd
    generalize wc.heap.size + 1 = g at *
    obtain ⟨k2, hk2⟩ : ∃ k2, jk ap st rd tm ty m = k2 := ⟨_, rfl⟩
    rw [hk2] at JJ RR
    clear hk2 hm5
    have KD : Aside (∀ W, Below W9.drew.heap.size W9.drew W → Kp W9 W) := fun W h => Kp.step (Below.drew (Kp.refl W9)) h
    have HCS : Aside (∀ W, Kp W9 W → W.cell? ⟨rb, 0, none⟩ = some (.int .u64 id) ∧ W.cell? ⟨rb, 1, none⟩ = some (.int .i64 st) ∧ W.cell? ⟨rb, 2, none⟩ = some (.bool rd) ∧ W.cell? ⟨rb, 3, none⟩ = some (.bool tm) ∧ W.cell? ⟨rb, 4, none⟩ = some (.string ty) ∧ W.cell? ⟨rb, 5, none⟩ = some (.string ca) ∧ W.cell? ⟨rb, 6, none⟩ = some (.slice (some ⟨g, 0, none⟩) m m)) := fun W hW => by
      have X := B9.out.2.1.below hW B9.out.2.1.lt
      exact ⟨X.get 0, X.get 1, X.get 2, X.get 3, X.get 4, X.get 5, X.get 6⟩
    have K0 : Aside (Kp W9 W9.drew) := Below.drew (Kp.refl W9)
    go_region_held3 (fun W => W.cell? ⟨rb, 0, none⟩ = some (.int .u64 id) ∧ W.cell? ⟨rb, 1, none⟩ = some (.int .i64 st) ∧ W.cell? ⟨rb, 2, none⟩ = some (.bool rd) ∧ W.cell? ⟨rb, 3, none⟩ = some (.bool tm) ∧ W.cell? ⟨rb, 4, none⟩ = some (.string ty) ∧ W.cell? ⟨rb, 5, none⟩ = some (.string ca) ∧ W.cell? ⟨rb, 6, none⟩ = some (.slice (some ⟨g, 0, none⟩) m m))
      (first | exact HCS.out _ K0.out | exact HCS.out _ K5.out | exact HCS.out _ K6.out | exact HCS.out _ K7.out)
      ((first
        | (go_at_call 8; refine (JJ _).mono ?_; rintro e w5 ⟨x5, rfl, hx5, hb5⟩; have K5 : Aside (Kp W9 w5) := (by first | exact KD.out _ hb5 | exact Kp.step K7.out hb5); have HK5 : Aside (∀ W, Keeps w5 W → Calls Tryd.prog 9 #[x5] W fun e w' => e = .returned (.int .i64 (k2 : Int)) ∧ Keeps w5 w') := fun W hW => jkind (B9.out.2.2.below K5.out (Nat.le_refl _)) hx5 hW; clear hb5 hx5)
        | (go_at_call 9; (first | refine (HK5.out _ (Keeps.refl _)).mono ?_ | refine (HK5.out _ K57.out).mono ?_); rintro e w6 ⟨rfl, hb6⟩; have K6 : Aside (Kp W9 w6) := Kp.step K5.out hb6; clear hb6)
        | (go_at_call 10; refine (RR _).mono ?_; rintro e w7 ⟨rfl, hb7⟩; have K57 := Lib.hid hb7; have K7 : Aside (Kp W9 w7) := (by first | exact KD.out _ hb7 | exact Kp.step K6.out hb7 | exact Kp.step K5.out hb7); clear hb7)))
    all_goals
      go_wp2_with fail
      go_ret
      rw [← hrb.out]
      refine ⟨?_, ?_⟩
      · simp
      · first | exact B9.out.1.trans (Below.mono K6.out (Nat.le_of_lt B9.out.2.1.lt)) | exact B9.out.1.trans (Below.mono K7.out (Nat.le_of_lt B9.out.2.1.lt))
set_option maxRecDepth 100000 in
set_option maxHeartbeats 2000000 in
theorem law (ap : Bool) (id st : Int) (rd tm : Bool) (ty ca : ByteArray) (a : Option Addr) (n c : Nat) (size : Int) (w : World) (hf : ty.size ≤ maxLen ∧ n ≤ maxLen) (hL : Laid w) :
    Calls Tryd.prog 3 #[.bool ap, .agg #[.int .u64 id, .int .i64 st, .bool rd, .bool tm, .string ty, .string ca, .slice a n c], .int .i64 size] w fun e w' => e = .returned (.bool true) ∧ Below w.heap.size w w' := by
  obtain ⟨f1, f2⟩ := hf
  unfold maxLen at f1 f2
  by_cases h1 : 1500 < ty.size
  · obtain ⟨W1, hW1⟩ : ∃ W1, w.alloc (.cells #[.int .u64 id, .int .i64 st, .bool rd, .bool tm, .string ty, .string ca, .slice a n c] 25) = W1 := ⟨_, rfl⟩
    have B1 : Aside (Below w.heap.size w W1 ∧ Blk W1 w.heap.size #[.int .u64 id, .int .i64 st, .bool rd, .bool tm, .string ty, .string ca, .slice a n c] 25 ∧ Laid W1 ∧ w.heap.size < W1.heap.size) := by
      subst hW1
      exact ⟨(Below.refl _ w).alloc (Nat.le_refl _) _, blk_new w _ _, hL.alloc _, by simp⟩
    have S := speaks_any W1 B1.out.2.2.1
    have HW1 := Lib.hid hW1
    have x1 : (1500 : Int) < (ty.size : Int) := by omega
    clear hL hW1 h1
    go_enter Tryd.func3, Tryd.ntmps3
    go_wp2_with fail
    rw [HW1.out]
    refine S.mono ?_; rintro e w1 ⟨rfl, hb⟩
    have X := B1.out.2.1.below hb B1.out.2.2.2
    have c4 := X.get 4
    have c6 := X.get 6
    simp only [List.getElem?_toArray, List.getElem?_cons_zero, List.getElem?_cons_succ] at c4 c6
    have K : Aside (Below w.heap.size w w1) := B1.out.1.trans (hb.mono B1.out.1.size)
    clear hb X S B1 HW1
    go_wp2_with fail
    go_ret
    exact ⟨rfl, K.out⟩
  · by_cases h2 : 2000000 < n
    · obtain ⟨W1, hW1⟩ : ∃ W1, w.alloc (.cells #[.int .u64 id, .int .i64 st, .bool rd, .bool tm, .string ty, .string ca, .slice a n c] 25) = W1 := ⟨_, rfl⟩
      have B1 : Aside (Below w.heap.size w W1 ∧ Blk W1 w.heap.size #[.int .u64 id, .int .i64 st, .bool rd, .bool tm, .string ty, .string ca, .slice a n c] 25 ∧ Laid W1 ∧ w.heap.size < W1.heap.size) := by
        subst hW1
        exact ⟨(Below.refl _ w).alloc (Nat.le_refl _) _, blk_new w _ _, hL.alloc _, by simp⟩
      have S := speaks_any W1 B1.out.2.2.1
      have HW1 := Lib.hid hW1
      have x1 : ¬ (1500 : Int) < (ty.size : Int) := by omega
      have x2 : (2000000 : Int) < (n : Int) := by omega
      clear hL hW1 h1 h2
      go_enter Tryd.func3, Tryd.ntmps3
      go_wp2_with fail
      rw [HW1.out]
      refine S.mono ?_; rintro e w1 ⟨rfl, hb⟩
      have X := B1.out.2.1.below hb B1.out.2.2.2
      have c4 := X.get 4
      have c6 := X.get 6
      simp only [List.getElem?_toArray, List.getElem?_cons_zero, List.getElem?_cons_succ] at c4 c6
      have K : Aside (Below w.heap.size w w1) := B1.out.1.trans (hb.mono B1.out.1.size)
      clear hb X S B1 HW1
      go_wp2_with fail
      go_ret
      exact ⟨rfl, K.out⟩
    · exact main ap id st rd tm ty ca a n c size w (by omega) (by omega) hL
end Go.Proofs.YtelofhplpeeplaaDoor.wireJudges
