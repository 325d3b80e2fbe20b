/- The walk of the law on fingerprints' lists: for any list and any fingerprint it returns true, and what was there stays. -/
import Derived.Test.YtmaigbfmbhknhaaDoorSpeaksI
import Derived.Test.YtmaigbfmbhknhaaDoorPrPrints2
import Derived.Test.YtmaigbfmbhknhaaDoorPrClass
set_option linter.unusedSimpArgs false
set_option linter.unusedVariables false
namespace Go.Proofs.YtmaigbfmbhknhaaDoor.identLists
open Go.RowKit Go.Proofs.YtmaigbfmbhknhaaDoor.errs Go.Proofs.YtmaigbfmbhknhaaDoor.prints

theorem among_wanted (zs : List Pr) (x : Pr) : among (wanted zs) x = among zs x := by
  have e : ∀ l : List Pr, among l x = decide (x ∈ l) := fun l => by
    unfold among
    rw [Bool.eq_iff_iff, List.any_eq_true, decide_eq_true_eq]
    constructor
    · rintro ⟨y, hy, e⟩
      have e : x = y := by simpa using e
      exact e ▸ hy
    · intro h
      exact ⟨x, h, by simp⟩
  rw [e, e, decide_eq_decide]
  exact wanted_mem zs x

set_option maxHeartbeats 8000000 in
set_option maxRecDepth 100000 in
theorem law (zs : List Pr) (v : Value) (x : Pr) (w : World) (h : Row w v zs) (hL : Laid w) :
    Calls Tryd.prog 3 #[v, .agg (enc x).toArray] w fun e w' => e = .returned (.bool true) ∧ Below w.heap.size w w' := by
  have k0 := keeps_new w (.cells (enc x).toArray 24)
  have S := ident.speaks_any _ (hL.below k0 (Nat.le_refl _))
  obtain ⟨a, cap, ev, h1, h2, -, -⟩ := id h
  subst ev
  obtain ⟨n, hn⟩ : ∃ n, Hid (zs.length = n) := ⟨_, rfl⟩
  rw [hn.out] at h h1 ⊢
  have B0 : Aside (Row (w.alloc (.cells (enc x).toArray 24)) (.slice a n cap) zs ∧ At32 (w.alloc (.cells (enc x).toArray 24)) w.heap.size 0 x ∧ Keeps w (w.alloc (.cells (enc x).toArray 24))) := ⟨h.below k0, at32_new w x _, k0⟩
  clear h hL k0
  by_cases hbig : 100 < n
  · have x1 : (100 : Int) < (n : Int) := by omega
    go_enter Tryd.func3, Tryd.ntmps3
    go_wp2_with fail
    refine S.mono ?_; rintro e w1 ⟨rfl, k1⟩
    go_wp2_with fail
    go_ret
    exact ⟨rfl, B0.out.2.2.step k1⟩
  have x1 : ¬ (100 : Int) < (n : Int) := by omega
  go_enter Tryd.func3, Tryd.ntmps3
  go_wp2_with fail
  generalize w.alloc (.cells (enc x).toArray 24) = W0 at S B0 ⊢
  obtain ⟨bx, hbx⟩ : ∃ bx, Hid (w.heap.size = bx) := ⟨_, rfl⟩
  rw [hbx.out] at B0 ⊢
  refine S.mono ?_; rintro e w1 ⟨rfl, k1⟩
  have B1 : Aside (Row w1 (.slice a n cap) zs ∧ At32 w1 bx 0 x ∧ Keeps w w1) := ⟨B0.out.1.below k1, B0.out.2.1.below k1 (Nat.le_refl _), B0.out.2.2.step k1⟩
  clear k1 S B0
  go_wp2_with (at_builtin; refine append_any rfl _ _ rfl w1.heap.size (.slice (some ⟨w1.heap.size, 0, none⟩) 0 0) [] rfl (World.ownsRow_lit w1 #[] 0 (Nat.le_refl _) (by unfold maxLen; omega) rfl) a n cap zs rfl (B1.out.1.below (keeps_new w1 (.cells #[] 24))).source ?la ?lb ?_)
  case la => rw [hn.out]; simp; omega
  case lb => simp
  intro v4 w4 own4 grow4
  have k4 : Keeps w1 w4 := ((Below.refl w1.heap.size w1).alloc (Nat.le_refl _) _).grown grow4 (by simp) (fun q hq => by simp [Value.ownBlock] at hq; omega)
  have own5 : Row w4 v4 zs := own_row (own_cast own4 (by simp) (by simp))
  obtain ⟨a4, c4, rfl, -, -, -, -⟩ := id own5
  rw [hn.out] at own5 ⊢
  have B4 : Aside (Row w4 (.slice a n cap) zs ∧ At32 w4 bx 0 x ∧ Keeps w w4 ∧ Row w4 (.slice a4 n c4) zs) := ⟨B1.out.1.below k4, B1.out.2.1.below k4 (Nat.le_refl _), B1.out.2.2.step k4, own5⟩
  clear own4 grow4 own5 k4 B1
  have P := prints_any zs _ w4 B4.out.2.2.2 (by rw [hn.out]; omega)
  go_wp2_with fail
  refine P.mono ?_; rintro e w5 ⟨a5, m, c5, rfl, hm, r5, k5⟩
  have HM := Lib.hid hm
  have B5 : Aside (Row w5 (.slice a n cap) zs ∧ At32 w5 bx 0 x ∧ Keeps w w5 ∧ Row w5 (.slice a4 n c4) zs ∧ Row w5 (.slice a5 m c5) (wanted zs)) := ⟨B4.out.1.below k5, B4.out.2.1.below k5 (Nat.le_refl _), B4.out.2.2.1.step k5, B4.out.2.2.2.below k5, r5⟩
  clear P hm r5 k5 B4
  have P := refprints_any zs _ w5 B5.out.1 (by rw [hn.out]; omega)
  go_wp2_with fail
  refine P.mono ?_; rintro e w6 ⟨v6, rfl, r6, k6⟩
  obtain ⟨a6, c6, ev, -, -, -, -⟩ := id r6
  rw [HM.out] at ev
  subst ev
  have B6 : Aside (Row w6 (.slice a n cap) zs ∧ At32 w6 bx 0 x ∧ Keeps w w6 ∧ Row w6 (.slice a4 n c4) zs ∧ Row w6 (.slice a5 m c5) (wanted zs) ∧ Row w6 (.slice a6 m c6) (wanted zs)) := ⟨B5.out.1.below k6, B5.out.2.1.below k6 (Nat.le_refl _), B5.out.2.2.1.step k6, B5.out.2.2.2.1.below k6, B5.out.2.2.2.2.below k6, r6⟩
  clear P r6 k6 B5
  obtain ⟨r, hr⟩ : ∃ r, Hid (among zs x = r) := ⟨_, rfl⟩
  have FX : Aside (∀ W, Keeps w6 W → At32 W bx 0 x) := fun W hk => B6.out.2.1.below hk (Nat.le_refl _)
  have H1 : Aside (∀ W, Keeps w6 W → Calls Tryd.prog 8 #[.slice a4 n c4, .agg (enc x).toArray] W fun e w' => e = .returned (.bool r) ∧ Keeps w6 w') := fun W hk => by
    have := prints.has_any zs _ x W (B6.out.2.2.2.1.below hk)
    rw [hr.out] at this
    exact this.mono fun e w' ⟨e1, e2⟩ => ⟨e1, hk.step e2⟩
  have H2 : Aside (∀ W, Keeps w6 W → Calls Tryd.prog 9 #[.slice a n cap, .agg (enc x).toArray] W fun e w' => e = .returned (.bool r) ∧ Keeps w6 w') := fun W hk => by
    have := refhas_any zs _ x W (B6.out.1.below hk)
    rw [hr.out] at this
    exact this.mono fun e w' ⟨e1, e2⟩ => ⟨e1, hk.step e2⟩
  have H3 : Aside (∀ W, Keeps w6 W → Calls Tryd.prog 8 #[.slice a5 m c5, .agg (enc x).toArray] W fun e w' => e = .returned (.bool r) ∧ Keeps w6 w') := fun W hk => by
    have := prints.has_any (wanted zs) _ x W (B6.out.2.2.2.2.1.below hk)
    rw [among_wanted, hr.out] at this
    exact this.mono fun e w' ⟨e1, e2⟩ => ⟨e1, hk.step e2⟩
  go_wp2_with fail
  refine cq_region (by kernel_rfl) (by kernel_rfl) ?_
  repeat (first
    | (refine cq_load24 rfl _ rfl _ _ rfl x FX.out ?_; simp only [Act.put, List.setIfInBounds_toArray, List.set_cons_zero, List.set_cons_succ])
    | (refine cq_call rfl 8 #[.slice a4 n c4, .agg (enc x).toArray] (.bool r) ?_ H1.out ?_; (focus (intro W; go_simp; done)); simp only [Act.put, List.setIfInBounds_toArray, List.set_cons_zero, List.set_cons_succ])
    | (refine cq_call rfl 9 #[.slice a n cap, .agg (enc x).toArray] (.bool r) ?_ H2.out ?_; (focus (intro W; go_simp; done)); simp only [Act.put, List.setIfInBounds_toArray, List.set_cons_zero, List.set_cons_succ])
    | (refine cq_call rfl 8 #[.slice a5 m c5, .agg (enc x).toArray] (.bool r) ?_ H3.out ?_; (focus (intro W; go_simp; done)); simp only [Act.put, List.setIfInBounds_toArray, List.set_cons_zero, List.set_cons_succ])
    | (refine cq_pure rfl ?_; apply Exists.intro; refine ⟨fun W => ?_, ?_⟩; (focus (go_simp; try rfl)); simp only [Act.put, List.setIfInBounds_toArray, List.set_cons_zero, List.set_cons_succ]))
  refine wpQuiet_nil ?_
  intro w7 k7
  have B7 : Aside (Row w7 (.slice a n cap) zs ∧ Row w7 (.slice a4 n c4) zs ∧ Row w7 (.slice a5 m c5) (wanted zs) ∧ Row w7 (.slice a6 m c6) (wanted zs) ∧ Keeps w w7) := ⟨B6.out.1.below k7, B6.out.2.2.2.1.below k7, B6.out.2.2.2.2.1.below k7, B6.out.2.2.2.2.2.below k7, B6.out.2.2.1.step k7⟩
  clear B6 FX H1 H2 H3 k7
  have hmn : m ≤ n := by
    have e := upto_length (zs := zs) (Nat.le_refl zs.length)
    rw [List.take_length, hn.out] at e
    rw [← HM.out]; exact e
  go_wp2_with fail
  go_loopg [47] m (fun g t wr => ∃ k : Nat, t = .int .i64 k ∧ g + k = m ∧ Keeps w7 wr)
  case atStart => exact ⟨0, rfl, rfl, Keeps.refl _⟩
  case round =>
    obtain ⟨k, rfl, hg, hk⟩ := hrel
    by_cases hlt : k < m
    · obtain ⟨b1, o1, e1, q1⟩ := row_at B7.out.2.2.1 (k := k) (by rw [HM.out]; exact hlt)
      obtain ⟨b2, o2, e2, q2⟩ := row_at B7.out.2.2.2.1 (k := k) (by rw [HM.out]; exact hlt)
      subst e1
      subst e2
      have y0 : (0 : Int) ≤ (k : Int) := by omega
      have y1 : (k : Int) < (m : Int) := by omega
      obtain ⟨y, hy⟩ : ∃ y, Hid ((wanted zs)[k]! = y) := ⟨_, rfl⟩
      rw [hy.out] at q1 q2
      have C1 : Aside (At32 wr b1 (o1 + k * 32) y) := q1.below hk (Nat.le_refl _)
      have C2 : Aside (At32 wr b2 (o2 + k * 32) y) := q2.below hk (Nat.le_refl _)
      have K : Aside (Keeps w7 wr) := hk
      have q := neq24 y y
      clear q1 q2 hk
      go_wp2_with fail
      refine wp_region_quiet_lit (by kernel_rfl) (by kernel_rfl) ?_
      repeat (first
        | (refine quiet_load24 rfl _ rfl _ _ rfl _ (by first | exact C1.out | exact C2.out) ?_; simp only [Act.put, List.setIfInBounds_toArray, List.set_cons_zero, List.set_cons_succ])
        | go_big_quiet_step (fail))
      refine wpQuiet_nil ?_
      intro _ hw'
      obtain ⟨nq, hw''⟩ := hw'
      subst hw''
      go_wp2_with fail
      go_roundg (gk - 1)
      case measure => omega
      case rel => exact ⟨k + 1, by go_num, by omega, below_drewN K.out nq⟩
    · have hkn : k = m := by omega
      have y1 : ¬ (k : Int) < (m : Int) := by omega
      have B8 : Aside (Row wr (.slice a n cap) zs ∧ Row wr (.slice a4 n c4) zs ∧ Keeps w wr) := ⟨B7.out.1.below hk, B7.out.2.1.below hk, B7.out.2.2.2.2.step hk⟩
      clear hk B7
      go_wp2_with fail
      generalize wr = w8 at B8 ⊢
      go_loopg [62] n (fun g t wr => ∃ k : Nat, t = .int .i64 k ∧ g + k = n ∧ Keeps w8 wr)
      case atStart => exact ⟨0, rfl, rfl, Keeps.refl _⟩
      case round =>
        obtain ⟨k, rfl, hg, hk⟩ := hrel
        by_cases hlt : k < n
        · obtain ⟨b1, o1, e1, q1⟩ := row_at B8.out.2.1 (k := k) (by rw [hn.out]; exact hlt)
          obtain ⟨b2, o2, e2, q2⟩ := row_at B8.out.1 (k := k) (by rw [hn.out]; exact hlt)
          subst e1
          subst e2
          have y0 : (0 : Int) ≤ (k : Int) := by omega
          have y1 : (k : Int) < (n : Int) := by omega
          obtain ⟨y, hy⟩ : ∃ y, Hid ((zs)[k]! = y) := ⟨_, rfl⟩
          rw [hy.out] at q1 q2
          have C1 : Aside (At32 wr b1 (o1 + k * 32) y) := q1.below hk (Nat.le_refl _)
          have C2 : Aside (At32 wr b2 (o2 + k * 32) y) := q2.below hk (Nat.le_refl _)
          have K : Aside (Keeps w8 wr) := hk
          have q := neq24 y y
          clear q1 q2 hk
          go_wp2_with fail
          refine wp_region_quiet_lit (by kernel_rfl) (by kernel_rfl) ?_
          repeat (first
            | (refine quiet_load24 rfl _ rfl _ _ rfl _ (by first | exact C1.out | exact C2.out) ?_; simp only [Act.put, List.setIfInBounds_toArray, List.set_cons_zero, List.set_cons_succ])
            | go_big_quiet_step (fail))
          refine wpQuiet_nil ?_
          intro _ hw'
          obtain ⟨nq, hw''⟩ := hw'
          subst hw''
          go_wp2_with fail
          go_roundg (gk - 1)
          case measure => omega
          case rel => exact ⟨k + 1, by go_num, by omega, below_drewN K.out nq⟩
        · have hkn : k = n := by omega
          have y1 : ¬ (k : Int) < (n : Int) := by omega
          go_wp2_with fail
          go_ret
          exact ⟨rfl, B8.out.2.2.step hk⟩
end Go.Proofs.YtmaigbfmbhknhaaDoor.identLists
