/- slices.Compact at fingerprints: one of each run of equal ones is kept. -/
import Derived.Test.YtmaigbfmbhknhaaDoorPrHold
set_option linter.unusedSimpArgs false
set_option linter.unusedVariables false
namespace Go.Proofs.YtmaigbfmbhknhaaDoor.prints
open Go.RowKit Go.Proofs.YtmaigbfmbhknhaaDoor.errs Go.Lib

/-- A store of a fingerprint, met whole. -/
theorem store24 {ops : Array Oper} {rest : List Oper} {op : Oper} {a : Act} {w : World} {Q : Exit → Act → World → Prop} (hgd : op.guard = none) (x y : Operand) (ho : op.op = .store 24 x y)
    (b o : Nat) (p : Pr) (hx : a.eval x = .pointer (some ⟨b, o, none⟩)) (hy : a.eval y = .agg (enc p).toArray) (ht : w.there b o 32)
    (h : wpList Tryd.prog ops Q rest (a.put op.dst undef) (w.setCells b o (enc p))) : wpList Tryd.prog ops Q (op :: rest) a w := by
  refine wpList_store_mid hgd 24 x y ho b o (enc p).toArray hx hy (by simpa [enc_length] using ht) (by rw [size24]; simp [enc_length]) (all_oneCell_toArray (enc_one p)) ?_
  simpa using h

theorem hold_lt {w : World} {B : Nat} {d : Array Pr} (h : Hold w B d) (h0 : 0 < d.size) : B < w.heap.size := at32_lt (h 0 h0).1

/-- What the call leaves: the slice is cut to those that are kept, which stand in its block from the beginning on. -/
def CompactOut (r : List Pr) (B cap : Nat) (w : World) (e : Ending) (w' : World) : Prop :=
  e = .returned (.slice (some ⟨B, 0, none⟩) r.length cap) ∧ (∀ j, j < r.length → At32 w' B (j * 32) r[j]!) ∧ Below B w w'

set_option maxHeartbeats 8000000 in
set_option maxRecDepth 100000 in
theorem compact_any (d : Array Pr) (B cap : Nat) (w : World) (hH : Hold w B d) (hsz : d.size ≤ 1000) (hcap : d.size ≤ cap) (hm : cap ≤ 9223372036854775807) :
    Calls Tryd.prog 19 #[.slice (some ⟨B, 0, none⟩) d.size cap] w (CompactOut (compactUpTo d d.size) B cap w) := by
  have hu := Tryd.underlying24
  have same : ∀ w', Hold w' B d → (∀ j, j < d.size → keeps d j = true) → (compactUpTo d d.size).length = d.size ∧ ∀ j, j < (compactUpTo d d.size).length → At32 w' B (j * 32) (compactUpTo d d.size)[j]! := by
    intro w' h' hall
    have e : compactUpTo d d.size = d.toList := by rw [compactUpTo_all d _ hall, range_map_get]
    rw [e]
    refine ⟨by simp, fun j hj => ?_⟩
    have hj : j < d.size := by simpa using hj
    have := (h' j hj).1
    rwa [show d.toList[j]! = d[j]! by rw [getElem!_pos d.toList j (by simpa using hj), getElem!_pos d j hj]; simp]
  have SM : Aside (∀ w', Hold w' B d → (∀ j, j < d.size → keeps d j = true) → (compactUpTo d d.size).length = d.size ∧ ∀ j, j < (compactUpTo d d.size).length → At32 w' B (j * 32) (compactUpTo d d.size)[j]!) := same
  clear same
  obtain ⟨r, hr⟩ : ∃ r, Hid (compactUpTo d d.size = r) := ⟨_, rfl⟩
  rw [hr.out] at SM ⊢
  obtain ⟨n, hn⟩ : ∃ n, Hid (d.size = n) := ⟨_, rfl⟩
  rw [hn.out] at hsz hcap SM ⊢
  have HH : Aside (Hold w B d) := hH
  clear hH
  by_cases h2 : n < 2
  · have y0 : (n : Int) < 2 := by omega
    go_enter Tryd.func19, Tryd.ntmps19
    go_wp2_with fail
    go_ret
    obtain ⟨e1, e2⟩ := SM.out w HH.out (fun j hj => keeps_lt_one d j (by omega))
    exact ⟨by rw [e1]; rfl, e2, Below.refl _ _⟩
  have y0 : ¬ (n : Int) < 2 := by omega
  go_enter Tryd.func19, Tryd.ntmps19
  go_wp2_with fail
  go_loopg [3] n (fun g s3 wr => ∃ k : Nat, s3 = .int .i64 k ∧ 1 ≤ k ∧ k ≤ n ∧ g + k = n + 1 ∧ Aside (Hold wr B d ∧ Below B w wr ∧ ∀ j, j < k → keeps d j = true))
  case atStart => exact ⟨1, rfl, Nat.le_refl _, by omega, by omega, HH.out, Below.refl _ _, keeps_lt_one d⟩
  case round =>
    obtain ⟨k, rfl, hk1, hk, hg, hA⟩ := hrel
    by_cases hlt : k < n
    · have z0 : (0 : Int) ≤ (k : Int) := by omega
      have z1 : (k : Int) < (n : Int) := by omega
      have z2 : (0 : Int) ≤ (k : Int) - 1 := by omega
      have z3 : (k : Int) - 1 < (n : Int) := by omega
      have z4 : ((k : Int) - 1).toNat = k - 1 := by omega
      have c1 := (hA.out.1 k (by rw [hn.out]; exact hlt)).1
      have c0 := (hA.out.1 (k - 1) (by rw [hn.out]; omega)).1
      obtain ⟨x, hx⟩ : ∃ x, Hid (d[k]! = x) := ⟨_, rfl⟩
      obtain ⟨y, hy⟩ : ∃ y, Hid (d[k - 1]! = y) := ⟨_, rfl⟩
      rw [hx.out] at c1
      rw [hy.out] at c0
      have C1 : Aside (At32 wr B (k * 32) x) := c1
      have C0 : Aside (At32 wr B ((k - 1) * 32) y) := c0
      clear c1 c0
      have q := eql24 x y
      cases hd : decide (x = y) with
      | true =>
        have D : Aside (x = y) := (of_decide_eq_true hd : x = y)
        go_wp2_with fail
        refine wp_region_quiet_lit (by kernel_rfl) (by kernel_rfl) ?_
        repeat (first
          | (refine quiet_load24 rfl _ rfl _ _ rfl _ (by first | exact C1.out | exact C0.out) ?_; simp only [Act.put, List.setIfInBounds_toArray, List.set_cons_zero, List.set_cons_succ])
          | go_big_quiet_step (fail))
        refine wpQuiet_nil ?_
        intro _ hw'
        obtain ⟨nq, hw''⟩ := hw'
        subst hw''
        have z5 : (k : Int) < (cap : Int) := by omega
        have z6 : (k : Int) ≤ (cap : Int) := by omega
        have z7 : (k : Int) ≤ (n : Int) := by omega
        have z8 : ¬ cap = k := by omega
        have NA : Aside (Hold (wr.drewN nq) B d ∧ Below B w (wr.drewN nq) ∧ CompInv d (k + 1) k d) := ⟨hA.out.1.drewN nq, below_drewN hA.out.2.1 nq, CompInv.start hA.out.2.2 (keeps_neg (by omega) (by rw [hx.out, hy.out]; exact D.out))⟩
        clear hA C1 C0 q hd hx hy D
        go_wp2_with fail
        clear z2 z3 z4 z5 z6 z7 z8 z1 z0
        go_loopg [3, 5] n (fun g s3 s5 wr => ∃ (kk k2 : Nat) (dk : Array Pr), s3 = .int .i64 kk ∧ s5 = .int .i64 k2 ∧ 1 ≤ k2 ∧ k + k2 ≤ n ∧ n - (k + k2) ≤ g ∧ kk < k + k2 ∧ Aside (Hold wr B dk ∧ Below B w wr ∧ CompInv d (k + k2) kk dk ∧ dk.size = n))
        case atStart => exact ⟨k, 1, d, rfl, rfl, Nat.le_refl _, by omega, by omega, by omega, NA.out.1, NA.out.2.1, NA.out.2.2, hn.out⟩
        case round =>
          obtain ⟨kk, k2, dk, rfl, rfl, h21, hle, hg2, hkk, hB⟩ := hrel
          have w0 : (0 : Int) ≤ (k2 : Int) := by omega
          have w1 : (0 : Int) ≤ (kk : Int) := by omega
          have w2 : (kk : Int) < (n : Int) := by omega
          by_cases hlt2 : k + k2 < n
          · have v1 : (k2 : Int) < ((n - k : Nat) : Int) := by omega
            have v2 : (0 : Int) ≤ (k2 : Int) - 1 := by omega
            have v3 : (k2 : Int) - 1 < ((n - k : Nat) : Int) := by omega
            have v4 : ((k2 : Int) - 1).toNat = k2 - 1 := by omega
            have e1 := (hB.out.1 (k + k2) (by rw [hB.out.2.2.2]; exact hlt2)).1
            have e0 := (hB.out.1 (k + k2 - 1) (by rw [hB.out.2.2.2]; omega)).1
            rw [hB.out.2.2.1.high (k + k2) (by omega), show (k + k2) * 32 = k * 32 + k2 * 32 by omega] at e1
            rw [hB.out.2.2.1.high (k + k2 - 1) (by omega), show (k + k2 - 1) * 32 = k * 32 + (k2 - 1) * 32 by omega] at e0
            obtain ⟨x, hx⟩ : ∃ x, Hid (d[k + k2]! = x) := ⟨_, rfl⟩
            obtain ⟨y, hy⟩ : ∃ y, Hid (d[k + k2 - 1]! = y) := ⟨_, rfl⟩
            rw [hx.out] at e1
            rw [hy.out] at e0
            have E1 : Aside (At32 wr B (k * 32 + k2 * 32) x) := e1
            have E0 : Aside (At32 wr B (k * 32 + (k2 - 1) * 32) y) := e0
            clear e1 e0
            have q := neq24 x y
            cases hd : decide (x = y) with
            | true =>
              have D : Aside (x = y) := (of_decide_eq_true hd : x = y)
              go_wp2_with fail
              refine wp_region_quiet_lit (by kernel_rfl) (by kernel_rfl) ?_
              repeat (first
                | (refine quiet_load24 rfl _ rfl _ _ rfl _ (by first | exact E1.out | exact E0.out) ?_; simp only [Act.put, List.setIfInBounds_toArray, List.set_cons_zero, List.set_cons_succ])
                | go_big_quiet_step (fail))
              refine wpQuiet_nil ?_
              intro _ hw'
              obtain ⟨nq2, hw''⟩ := hw'
              subst hw''
              go_wp2_with fail
              go_roundg (n - (k + (k2 + 1)))
              case measure => omega
              case rel =>
                exact ⟨kk, k2 + 1, dk, rfl, by go_num, by omega, by omega, Nat.le_refl _, by omega, hB.out.1.drewN nq2, below_drewN hB.out.2.1 nq2, hB.out.2.2.1.skip (keeps_neg (by omega) (by rw [hx.out, show k + k2 - 1 = k + k2 - 1 from rfl, hy.out]; exact D.out)), hB.out.2.2.2⟩
            | false =>
              have D : Aside (x ≠ y) := (of_decide_eq_false hd : ¬ x = y)
              go_wp2_with fail
              refine wp_region_quiet_lit (by kernel_rfl) (by kernel_rfl) ?_
              repeat (first
                | (refine quiet_load24 rfl _ rfl _ _ rfl _ (by first | exact E1.out | exact E0.out) ?_; simp only [Act.put, List.setIfInBounds_toArray, List.set_cons_zero, List.set_cons_succ])
                | go_big_quiet_step (fail))
              refine wpQuiet_nil ?_
              intro _ hw'
              obtain ⟨nq2, hw''⟩ := hw'
              subst hw''
              have T : Aside ((wr.drewN nq2).there B (kk * 32) 32) := hold_there (hB.out.1.drewN nq2) (by rw [hB.out.2.2.2]; omega)
              have L : Aside (At32 (wr.drewN nq2) B (k * 32 + k2 * 32) x) := fun i v hi => by rw [World.cell?_drewN]; exact E1.out i v hi
              go_wp2_with (first | (refine load24 rfl _ rfl _ _ rfl x L.out ?_) | (refine store24 rfl _ _ rfl _ _ x rfl rfl T.out ?_))
              go_roundg (n - (k + (k2 + 1)))
              case measure => omega
              case rel =>
                have I := hB.out.2.2.1.keep (by rw [hn.out]; exact hlt2) (keeps_pos (by rw [hx.out, hy.out]; exact D.out))
                rw [hx.out] at I
                exact ⟨kk + 1, k2 + 1, dk.setIfInBounds kk x, by go_num, by go_num, by omega, by omega, Nat.le_refl _, by omega, hold_store (hB.out.1.drewN nq2) (by rw [hB.out.2.2.2]; omega) x, below_setCells B (Nat.le_refl _) _ _ _ (below_drewN hB.out.2.1 nq2), I, by rw [Array.size_setIfInBounds]; exact hB.out.2.2.2⟩
          · have v1 : ¬ (k2 : Int) < ((n - k : Nat) : Int) := by omega
            have v5 : (kk : Int) < (cap : Int) := by omega
            have v6 : (kk : Int) ≤ (n : Int) := by omega
            have v7 : ¬ cap = kk := by omega
            have v8 : (kk : Int) ≤ (cap : Int) := by omega
            obtain ⟨vs, hvl, hcl⟩ : ∃ vs : List Value, vs.length = (n - kk) * 32 ∧ ∀ ty, (Builtin.clear_ #[22] ty #[.slice (some ⟨B, kk * 32, none⟩) (n - kk) (cap - kk)]).run Tryd.prog wr = .ok (.tuple #[]) (wr.setCells B (kk * 32) vs) := by
              have at1 : ∀ j, j < (n - kk) * 32 → (wr.cell? ⟨B, kk * 32 + j, none⟩).isSome = true ∧ wr.frozen? ⟨B, kk * 32 + j, none⟩ = false := fun j hj => by
                have h := hB.out.1 (kk + j / 32) (by rw [hB.out.2.2.2]; omega)
                have e : kk * 32 + j = (kk + j / 32) * 32 + j % 32 := by omega
                rw [e]
                exact ⟨by rw [h.1.cell (i := j % 32) (by omega)]; rfl, h.2 (j % 32) (by omega)⟩
              exact run_clear24 wr B (kk * 32) (n - kk) (cap - kk) (by omega) (fun j hj => (at1 j hj).1) (fun j hj => (at1 j hj).2)
            go_wp2_with fail
            go_ret
            have hI := hB.out.2.2.1
            rw [show k + k2 = d.size by rw [hn.out]; omega] at hI
            have hlen : r.length = kk := by rw [← hr.out]; exact hI.len
            refine ⟨by rw [hlen]; rfl, fun j hj => ?_, below_setCells B (Nat.le_refl _) _ _ _ hB.out.2.1⟩
            have hjk : j < kk := by omega
            have hlow := hI.low j hjk
            rw [hr.out, List.getElem?_eq_getElem hj] at hlow
            have e : r[j]! = dk[j]! := by rw [getElem!_pos r j hj]; exact Option.some.inj hlow
            rw [e]
            exact World.rangeAt_setCells_apart (hB.out.1 j (by rw [hB.out.2.2.2]; omega)).1 B (kk * 32) vs (.inr (by rw [enc_length]; omega))
      | false =>
        have D : Aside (x ≠ y) := (of_decide_eq_false hd : ¬ x = y)
        go_wp2_with fail
        refine wp_region_quiet_lit (by kernel_rfl) (by kernel_rfl) ?_
        repeat (first
          | (refine quiet_load24 rfl _ rfl _ _ rfl _ (by first | exact C1.out | exact C0.out) ?_; simp only [Act.put, List.setIfInBounds_toArray, List.set_cons_zero, List.set_cons_succ])
          | go_big_quiet_step (fail))
        refine wpQuiet_nil ?_
        intro _ hw'
        obtain ⟨nq, hw''⟩ := hw'
        subst hw''
        go_wp2_with fail
        go_roundg (gk - 1)
        case measure => omega
        case rel =>
          refine ⟨k + 1, by go_num, by omega, by omega, by omega, hA.out.1.drewN nq, below_drewN hA.out.2.1 nq, fun j hj => ?_⟩
          by_cases e : j = k
          · subst e
            exact keeps_pos (by rw [hx.out, hy.out]; exact D.out)
          · exact hA.out.2.2 j (by omega)
    · have hk : k = n := by omega
      have z1 : ¬ (k : Int) < (n : Int) := by omega
      go_wp2_with fail
      go_ret
      obtain ⟨e1, e2⟩ := SM.out wr hA.out.1 (fun j hj => hA.out.2.2 j (by omega))
      exact ⟨by rw [e1]; rfl, e2, hA.out.2.1⟩
end Go.Proofs.YtmaigbfmbhknhaaDoor.prints
