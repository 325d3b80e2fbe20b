/- The document's Judge. -/
import Derived.Test.YtelofhplpeeplaaDoorWrJudge
set_option linter.unusedSimpArgs false
set_option linter.unusedVariables false
namespace Go.Proofs.YtelofhplpeeplaaDoor.wire
open Go.RowKit Go.Proofs.YtelofhplpeeplaaDoor.errs Go.Proofs.YtelofhplpeeplaaDoor.media

set_option maxRecDepth 100000 in
set_option maxHeartbeats 2000000 in
theorem rjudge_any (ap : Bool) (id : Int) (st : Int) (rd tm : Bool) (ty ca : ByteArray) (a : Option Addr) (n c : Nat) (hs : ty.size ≤ 1000000) (w : World) :
    Calls Tryd.prog 10 #[.bool ap, .agg #[.int .u64 id, .int .i64 st, .bool rd, .bool tm, .string ty, .string ca, .slice a n c]] w fun e w' => e = .returned (.int .i64 (jk ap st rd tm ty n : Int)) ∧ Below w.heap.size w w' := by
  have C := fun w => raccept_any ty hs w
  obtain ⟨k, hk⟩ : ∃ k, Hid (jk ap st rd tm ty n = k) := ⟨_, rfl⟩
  rw [hk.out]
  have HK : Hid ((if tm then 43 else if rd then 41 else if 300 ≤ st ∧ st ≤ 399 then 41 else if st ≠ 200 then 40 else if typed ap ty then (if mostOf ap < n then 14 else 0) else 42) = k) := hk.out
  have HT : Hid (typed ap ty = ((ap && decide (ty.size = 0)) || decide (rkOf (mediaOf ty) = 0))) := rfl
  clear hk hs
  have W1 := (Below.refl w.heap.size w).alloc (Nat.le_refl _) (.cells #[.int .u64 id, .int .i64 st, .bool rd, .bool tm, .string ty, .string ca, .slice a n c] 25)
  have HW := Lib.hid W1
  clear W1
  cases tm with
  | true =>
    have V : Hid (k = 43) := HK.out.symm
    clear HK C HT
    go_enter Tryd.func10, Tryd.ntmps10
    go_wp2_with fail
    go_ret
    rw [V.out]
    exact ⟨rfl, HW.out⟩
  | false =>
    cases rd with
    | true =>
      have V : Hid (k = 41) := HK.out.symm
      clear HK C HT
      go_enter Tryd.func10, Tryd.ntmps10
      go_wp2_with fail
      go_ret
      rw [V.out]
      exact ⟨rfl, HW.out⟩
    | false =>
      by_cases h3 : 300 ≤ st ∧ st ≤ 399
      · have V : Hid (k = 41) := by have := HK.out; rw [if_neg (by decide), if_neg (by decide), if_pos h3] at this; exact this.symm
        obtain ⟨y1, y2⟩ := h3
        clear HK C HT
        go_enter Tryd.func10, Tryd.ntmps10
        go_wp2_with fail
        go_ret
        rw [V.out]
        exact ⟨rfl, HW.out⟩
      · have HK2 : Hid ((if st ≠ 200 then 40 else if typed ap ty then (if mostOf ap < n then 14 else 0) else 42) = k) := by have := HK.out; rw [if_neg (by decide), if_neg (by decide), if_neg h3] at this; exact this
        have hy : ¬ (300 : Int) ≤ st ∨ ((300 : Int) ≤ st ∧ ¬ st ≤ (399 : Int)) := by omega
        clear HK h3
        by_cases h4 : st = 200
        · have HK3 : Hid ((if typed ap ty then (if mostOf ap < n then 14 else 0) else 42) = k) := by have := HK2.out; rw [if_neg (by omega)] at this; exact this
          clear HK2 hy
          subst h4
          have cn : ∀ w2, Below (w.alloc (.cells #[.int .u64 id, .int .i64 200, .bool false, .bool false, .string ty, .string ca, .slice a n c] 25)).heap.size (w.alloc (.cells #[.int .u64 id, .int .i64 200, .bool false, .bool false, .string ty, .string ca, .slice a n c] 25)) w2 → w2.cell? ⟨w.heap.size, 6, none⟩ = some (.slice a n c) := fun w2 hb => by
            rw [hb.cell (p := ⟨w.heap.size, 6, none⟩) (by simp), World.cell?_alloc_at _ _ _ _ rfl]; rfl
          have HCN := Lib.hid cn
          clear cn
          by_cases h0 : ap = true ∧ ty.size = 0
          · obtain ⟨rfl, h0⟩ := h0
            have HK4 : Hid ((if 131072 < n then 14 else 0) = k) := by
              have := HK3.out
              rw [HT.out, h0] at this
              exact this
            have y0 : ¬ ((0 : Int) < (ty.size : Int)) := by omega
            clear HK3 HT h0 C HCN
            by_cases h5 : 131072 < n
            · have V : Hid (k = 14) := by have := HK4.out; rw [if_pos h5] at this; exact this.symm
              have y1 : (131072 : Int) < (n : Int) := by omega
              clear HK4 h5
              go_enter Tryd.func10, Tryd.ntmps10
              go_wp2_with fail
              go_ret
              rw [V.out]
              exact ⟨rfl, HW.out⟩
            · have V : Hid (k = 0) := by have := HK4.out; rw [if_neg h5] at this; exact this.symm
              have y1 : ¬ (131072 : Int) < (n : Int) := by omega
              have y2 : ¬ (1048576 : Int) < (n : Int) := by omega
              clear HK4 h5
              go_enter Tryd.func10, Tryd.ntmps10
              go_wp2_with fail
              go_ret
              rw [V.out]
              exact ⟨rfl, HW.out⟩
          · have HT2 : Hid (typed ap ty = decide (rkOf (mediaOf ty) = 0)) := by
              show _ = _
              rw [HT.out]
              cases ap with
              | false => rfl
              | true =>
                rw [decide_eq_false (show ¬ ty.size = 0 from fun e => h0 ⟨rfl, e⟩)]
                rfl
            have hy0 : ap = false ∨ (ap = true ∧ (0 : Int) < (ty.size : Int)) := by
              cases ap with
              | false => exact .inl rfl
              | true => exact .inr ⟨rfl, by have : ty.size ≠ 0 := fun e => h0 ⟨rfl, e⟩; omega⟩
            clear h0 HT
            obtain ⟨rk, hrk⟩ : ∃ rk, rkOf (mediaOf ty) = rk := ⟨_, rfl⟩
            rw [hrk] at C HT2
            clear hrk
            by_cases h6 : rk = 0
            · subst h6
              have HK4 : Hid ((if mostOf ap < n then 14 else 0) = k) := by have := HK3.out; rw [HT2.out, if_pos (by decide)] at this; exact this
              clear HK3 HT2
              rcases hy0 with rfl | ⟨rfl, y0⟩
              · by_cases h5 : 1048576 < n
                · have V : Hid (k = 14) := by have := HK4.out; rw [if_pos (by exact h5)] at this; exact this.symm
                  have y1 : (1048576 : Int) < (n : Int) := by omega
                  clear HK4 h5
                  go_enter Tryd.func10, Tryd.ntmps10
                  go_wp2_with fail
                  refine (C _).mono ?_; rintro e w2 ⟨rfl, hb⟩
                  have c6 := HCN.out w2 hb
                  have KB : Hid (Below w.heap.size w w2) := HW.out.trans (hb.mono (by simp))
                  clear hb
                  go_wp2_with fail
                  go_ret
                  rw [V.out]
                  exact ⟨rfl, KB.out⟩
                · have V : Hid (k = 0) := by have := HK4.out; rw [if_neg (by exact h5)] at this; exact this.symm
                  have y1 : ¬ (1048576 : Int) < (n : Int) := by omega
                  clear HK4 h5
                  go_enter Tryd.func10, Tryd.ntmps10
                  go_wp2_with fail
                  refine (C _).mono ?_; rintro e w2 ⟨rfl, hb⟩
                  have c6 := HCN.out w2 hb
                  have KB : Hid (Below w.heap.size w w2) := HW.out.trans (hb.mono (by simp))
                  clear hb
                  go_wp2_with fail
                  go_ret
                  rw [V.out]
                  exact ⟨rfl, KB.out⟩
              · by_cases h5 : 131072 < n
                · have V : Hid (k = 14) := by have := HK4.out; rw [if_pos (by exact h5)] at this; exact this.symm
                  have y1 : (131072 : Int) < (n : Int) := by omega
                  clear HK4 h5
                  go_enter Tryd.func10, Tryd.ntmps10
                  go_wp2_with fail
                  refine (C _).mono ?_; rintro e w2 ⟨rfl, hb⟩
                  have c6 := HCN.out w2 hb
                  have KB : Hid (Below w.heap.size w w2) := HW.out.trans (hb.mono (by simp))
                  clear hb
                  go_wp2_with fail
                  go_ret
                  rw [V.out]
                  exact ⟨rfl, KB.out⟩
                · have V : Hid (k = 0) := by have := HK4.out; rw [if_neg (by exact h5)] at this; exact this.symm
                  have y1 : ¬ (131072 : Int) < (n : Int) := by omega
                  have y2 : ¬ (1048576 : Int) < (n : Int) := by omega
                  clear HK4 h5
                  go_enter Tryd.func10, Tryd.ntmps10
                  go_wp2_with fail
                  refine (C _).mono ?_; rintro e w2 ⟨rfl, hb⟩
                  have c6 := HCN.out w2 hb
                  have KB : Hid (Below w.heap.size w w2) := HW.out.trans (hb.mono (by simp))
                  clear hb
                  go_wp2_with fail
                  go_ret
                  rw [V.out]
                  exact ⟨rfl, KB.out⟩
            · have V : Hid (k = 42) := by have := HK3.out; rw [HT2.out, decide_eq_false h6, if_neg (by decide)] at this; exact this.symm
              have y6 : ((rk : Int) != (0 : Int)) = true := by rw [bne_iff_ne]; omega
              clear HK3 HT2 HCN h6
              rcases hy0 with rfl | ⟨rfl, y0⟩
              all_goals
                go_enter Tryd.func10, Tryd.ntmps10
                go_wp2_with fail
                refine (C _).mono ?_; rintro e w2 ⟨rfl, hb⟩
                have KB : Hid (Below w.heap.size w w2) := HW.out.trans (hb.mono (by simp))
                clear hb
                go_wp2_with fail
                go_ret
                rw [V.out]
                exact ⟨rfl, KB.out⟩
        · have V : Hid (k = 40) := by have := HK2.out; rw [if_pos h4] at this; exact this.symm
          have y4 : (st == (200 : Int)) = false := beq_eq_false_iff_ne.2 h4
          have y5 : (st != (200 : Int)) = true := by rw [bne_iff_ne]; exact h4
          clear HK2 C HT
          rcases hy with y1 | ⟨y1, y2⟩
          all_goals
            go_enter Tryd.func10, Tryd.ntmps10
            go_wp2_with fail
            go_ret
            rw [V.out]
            exact ⟨rfl, HW.out⟩
end Go.Proofs.YtelofhplpeeplaaDoor.wire
