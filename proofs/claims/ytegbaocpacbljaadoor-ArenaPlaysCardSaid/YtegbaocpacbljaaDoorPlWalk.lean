/- The walk of the law on scripts: it returns true, and what was there stays. -/
import Derived.Test.YtegbaocpacbljaaDoorPlBo
import Derived.Test.YtegbaocpacbljaaDoorArSpeaks
import Derived.Deep.LoopGhost
import Derived.Deep.DeepCutAuto
import Derived.Deep.RegionHeld3
import Derived.IntWalk
set_option linter.unusedSimpArgs false
set_option linter.unusedVariables false
namespace Go.Proofs.YtegbaocpacbljaaDoor.arenaPlays
open Go.RowKit Go.Proofs.YtegbaocpacbljaaDoor.arena Go.Proofs.YtegbaocpacbljaaDoor.errs Go.Proofs.YtegbaocpacbljaaDoor.pair Go.Proofs.YtegbaocpacbljaaDoor.cls
open Go.Proofs.YtegbaocpacbljaaDoor.arenaI (upd upd_same upd_other)

/-- The script that came in. -/
def IsOps (w : World) (a : Option Addr) (len cap : Nat) (ups vs : Nat → Int) (ss : Nat → Bool) : Prop :=
  len ≤ cap ∧ cap ≤ 9223372036854775807 ∧ (0 < len → ∃ b off, a = some ⟨b, off, none⟩ ∧ ∀ i, i < len → w.cell? ⟨b, off + i * 3, none⟩ = some (.int .i64 (ups i)) ∧ w.cell? ⟨b, off + i * 3 + 1, none⟩ = some (.int .i64 (vs i)) ∧ w.cell? ⟨b, off + i * 3 + 2, none⟩ = some (.bool (ss i)))

/-- What holds behind a call of the script. -/
def After (w0 : World) (tb mb : Nat) (most : Int) (ob : Nat) (up v : Int) (s : Bool) (m : Nat) (wx : World) : Prop :=
  ∃ n V U, n ≤ m ∧ Bo w0 wx tb mb most n V U n V U ∧ Box wx ob #[.int .i64 up, .int .i64 v, .bool s]
theorem after_mk {w0 wx : World} {tb mb : Nat} {most : Int} {ob : Nat} {up v : Int} {s : Bool} {m : Nat} (n : Nat) (V U : Nat → Int) (h : n ≤ m) (hB : Bo w0 wx tb mb most n V U n V U) (hX : Box wx ob #[.int .i64 up, .int .i64 v, .bool s]) : After w0 tb mb most ob up v s m wx := ⟨n, V, U, h, hB, hX⟩

set_option maxRecDepth 100000 in
set_option maxHeartbeats 8000000 in
theorem law (most : Int) (a : Option Addr) (len cap : Nat) (ups vs : Nat → Int) (ss : Nat → Bool) (id : Int) (w : World) (hO : IsOps w a len cap ups vs ss) (hL : Laid w) :
    Calls Tryd.prog 3 #[.int .i64 most, .slice a len cap, .int .i64 id] w fun e w' => e = .returned (.bool true) ∧ Below w.heap.size w w' := by
  have S := arenaS.speaks_any w
  obtain ⟨r1, r2, r3⟩ := hO
  have HR := Lib.hid r3
  have HLa : Aside (Laid w) := hL
  clear r3 hL
  by_cases hbig : 60 < len
  · have x1 : (60 : Int) < (len : Int) := by omega
    clear hbig
    go_enter Tryd.func3, Tryd.ntmps3
    go_wp2_with fail
    refine S.mono ?_; rintro e w1 ⟨rfl, hb1⟩
    go_wp2_with fail
    go_ret
    exact ⟨rfl, hb1⟩
  have x1 : (len : Int) ≤ 60 := by omega
  clear hbig
  go_enter Tryd.func3, Tryd.ntmps3
  go_wp2_with fail
  refine S.mono ?_; rintro e w0 ⟨rfl, hb1⟩
  have HB1 : Aside (Below w.heap.size w w0) := hb1
  clear hb1 S
  go_wp2_with fail
  have N0 : Aside (Bo w0 ((w0.alloc (.cells #[.int .i64 most, .slice none 0 0] 51)).alloc (.cells #[.slice none 0 0, .slice none 0 0, .int .i64 most] 29)) w0.heap.size (w0.heap.size + 1) most 0 (fun _ => 0) (fun _ => 0) 0 (fun _ => 0) (fun _ => 0)) := bo_new w0 most
  refine (arenaI.new_any most w0).mono ?_; rintro e w2 ⟨rfl, rfl⟩
  go_wp2_with fail
  go_loopg [30] len (fun q t wr => ∃ (i n : Nat) (V U : Nat → Int), t = .int .i64 i ∧ i ≤ len ∧ n ≤ i ∧ Hid (i + q = len) ∧ Aside (Bo w0 wr w0.heap.size (w0.heap.size + 1) most n V U n V U))
  case atStart => exact ⟨0, 0, _, _, rfl, Nat.zero_le _, Nat.le_refl _, Nat.zero_add _, N0⟩
  case round =>
    clear N0
    obtain ⟨i, n, V, U, rfl, hi, hn, hq, hBo⟩ := hrel
    by_cases hlt : i < len
    · obtain ⟨q, hq2⟩ : ∃ q, Hid (gk = q + 1) := ⟨gk - 1, by have := hq.out; show gk = _; omega⟩
      obtain ⟨b, off, rfl, hB⟩ := HR.out (by omega)
      obtain ⟨hc0, hc1, hc2⟩ := hB i hlt
      have c0 := (hBo.out.frame.cell (p := ⟨b, off + i * 3, none⟩) (ltc ((HB1.out.cell (p := ⟨b, off + i * 3, none⟩) (ltc hc0)).trans hc0))).trans ((HB1.out.cell (p := ⟨b, off + i * 3, none⟩) (ltc hc0)).trans hc0)
      have c1 := (hBo.out.frame.cell (p := ⟨b, off + i * 3 + 1, none⟩) (ltc ((HB1.out.cell (p := ⟨b, off + i * 3 + 1, none⟩) (ltc hc1)).trans hc1))).trans ((HB1.out.cell (p := ⟨b, off + i * 3 + 1, none⟩) (ltc hc1)).trans hc1)
      have c2 := (hBo.out.frame.cell (p := ⟨b, off + i * 3 + 2, none⟩) (ltc ((HB1.out.cell (p := ⟨b, off + i * 3 + 2, none⟩) (ltc hc2)).trans hc2))).trans ((HB1.out.cell (p := ⟨b, off + i * 3 + 2, none⟩) (ltc hc2)).trans hc2)
      clear hB hc0 hc1 hc2
      generalize ups i = up at *
      generalize vs i = v at *
      generalize ss i = s at *
      have y0 : (0 : Int) ≤ (i : Int) := by omega
      have y1 : (i : Int) < (len : Int) := by omega
      go_upto_if 35 with fail
      obtain ⟨W1, hW1⟩ : ∃ W1, W1 = wr.alloc (.cells #[.int .i64 up, .int .i64 v, .bool s] 31) := ⟨_, rfl⟩
      rw [← hW1]
      have HX : Aside (Bo w0 W1 w0.heap.size (w0.heap.size + 1) most n V U n V U ∧ Box W1 wr.heap.size #[.int .i64 up, .int .i64 v, .bool s]) := by
        rw [hW1]
        exact ⟨hBo.out.below ((Below.refl _ wr).alloc (Nat.le_refl _) _), heap_alloc_new wr _⟩
      clear hW1 c0 c1 c2 hBo
      generalize wr.heap.size = ob at *
      obtain ⟨z0, z1, z2⟩ := HX.out.2.get
      go_cut [] (fun wx => After w0 w0.heap.size (w0.heap.size + 1) most ob up v s (i + 1) wx)
      case first =>
        cases s with
        | true =>
          by_cases hp : 0 ≤ up ∧ up < (n : Int)
          · obtain ⟨u, rfl⟩ : ∃ u : Nat, up = (u : Int) := ⟨up.toNat, by omega⟩
            have hu : u < n := by omega
            clear hp
            go_wp2_with fail
            refine (HX.out.1.set u hu v).mono ?_; rintro e w3 ⟨rfl, h3, -⟩
            go_wp2_with fail
            have hbx : Aside (Box w3 ob #[.int .i64 (u : Int), .int .i64 v, .bool true]) := h3.out.2 ob _ HX.out.2
            have D1 : Aside (∀ n' : Nat, Calls Tryd.prog 7 #[.pointer (some ⟨w0.heap.size + 1, 0, none⟩), .int .i64 (u : Int)] (w3.drewN n') fun e w2 => e = .returned (.bool true) ∧ ∃ m, w2 = w3.drewN m) := fun n' => ((h3.out.1.below (show Below w3.heap.size w3 (w3.drewN n') from ⟨rfl, rfl, rfl, Nat.le_refl _, fun _ _ => rfl⟩)).has_yes u hu).mono fun e w' ⟨e1, e2⟩ => ⟨e1, n', e2.symm⟩
            obtain ⟨l0, l1, l2⟩ := hbx.out.get
            go_quiet ((with_reducible exact D1.out _))
            obtain ⟨w4, hw4⟩ : ∃ w4, w4 = w3.drewN nq := ⟨_, rfl⟩
            rw [← hw4]
            have k4 : Below w3.heap.size w3 w4 := by rw [hw4]; exact ⟨rfl, rfl, rfl, Nat.le_refl _, fun _ _ => rfl⟩
            clear hw4 l0 l1 l2
            have hbx4 : Aside (Box w4 ob #[.int .i64 (u : Int), .int .i64 v, .bool true]) := hbx.out.below k4
            obtain ⟨g, c, vo, e1, e2, e3, hg, hB4, hX4⟩ := (h3.out.1.below k4).put u hu v
            obtain ⟨l0, l1, -⟩ := hbx4.out.get
            have HB4 : Aside (Bo w0 (w4.setCell ⟨g, u, none⟩ (.int .i64 v)) w0.heap.size (w0.heap.size + 1) most n (upd V u v) U n (upd V u v) U ∧ Box (w4.setCell ⟨g, u, none⟩ (.int .i64 v)) ob #[.int .i64 (u : Int), .int .i64 v, .bool true]) := ⟨hB4, hX4 _ _ hbx4.out⟩
            have yu0 : (0 : Int) ≤ (u : Int) := by omega
            have yu1 : (u : Int) < (n : Int) := by omega
            clear hB4 hX4 k4 D1 hbx hbx4
            go_wp2_with fail
            go_region
            have HB5 : Aside (After w0 w0.heap.size (w0.heap.size + 1) most ob (u : Int) v true (i + 1) (w4.setCell ⟨g, u, none⟩ (.int .i64 v)).drew) := after_mk n (upd V u v) U (by omega) (HB4.out.1.below (Below.refl _ _).drew) (HB4.out.2.below (Below.refl _ _).drew)
            clear HB4 e1 e2 e3 l0 l1
            go_wp2_with fail
            go_meet
            exact HB5.out
          · have hx : up < 0 ∨ (n : Int) ≤ up := by omega
            clear hp
            go_wp2_with fail
            refine (HX.out.1.setNo up hx v).mono ?_; rintro e w3 ⟨fb, rfl, h3⟩
            go_wp2_with fail
            have HB3 : Aside (Bo w0 w3 w0.heap.size (w0.heap.size + 1) most n V U n V U ∧ Box w3 ob #[.int .i64 up, .int .i64 v, .bool true]) := ⟨HX.out.1.below h3.out.2, HX.out.2.below h3.out.2⟩
            have HF : Aside (FaultAt w3 (.iface 56 (.pointer (some ⟨fb, 0, none⟩))) 30 up .nilIface) := h3.out.1
            have HL3 : Aside (Laid w3) := (HLa.out.below HB1.out (Nat.le_refl _)).below HB3.out.1.frame (Nat.le_refl _)
            have HC : Aside (∀ W, Kp w3 W → W.cell? ⟨ob, 0, none⟩ = some (.int .i64 up) ∧ W.cell? ⟨ob, 1, none⟩ = some (.int .i64 v)) := fun W hW => ⟨((HB3.out.2.below hW).get).1, ((HB3.out.2.below hW).get).2.1⟩
            have HH : Aside (∀ W, Kp w3 W → Calls Tryd.prog 7 #[.pointer (some ⟨w0.heap.size + 1, 0, none⟩), .int .i64 up] W fun e w' => e = .returned (.bool false) ∧ Kp w3 w') := fun W hW => ((HB3.out.1.below hW).has_no up hx).mono fun _ _ ⟨h1, h2⟩ => ⟨h1, h2 ▸ hW⟩
            have HK : Aside (∀ W, Kp w3 W → Calls Tryd.prog 8 #[(.iface 56 (.pointer (some ⟨fb, 0, none⟩)))] W fun e w' => e = .returned (.int .i64 30) ∧ Kp w3 w') := fun W hW => (kind_fault _ _ _ _ W (HL3.out.below hW (Nat.le_refl _)) (HF.out.below hW (Nat.le_refl _))).mono fun _ _ ⟨h1, h2⟩ => ⟨h1, Kp.step hW h2⟩
            have HA : Aside (∀ W, Kp w3 W → Calls Tryd.prog 9 #[(.iface 56 (.pointer (some ⟨fb, 0, none⟩)))] W fun e w' => e = .returned (.int .i64 up) ∧ Kp w3 w') := fun W hW => (at_fault _ _ _ _ W (HL3.out.below hW (Nat.le_refl _)) (HF.out.below hW (Nat.le_refl _))).mono fun _ _ ⟨h1, h2⟩ => ⟨h1, Kp.step hW h2⟩
            clear h3 hx
            refine cq_region (by kernel_rfl) (by kernel_rfl) ?_
            repeat (first
              | (refine cq_skip rfl ?_; simp only [Act.put, List.setIfInBounds_toArray, List.set_cons_zero, List.set_cons_succ])
              | (refine cq_op rfl ?_; apply Exists.intro; refine ⟨fun W hW => ?_, ?_⟩; (focus (obtain ⟨l0, l1⟩ := HC.out W hW; go_simp; try rfl)); simp only [Act.put, List.setIfInBounds_toArray, List.set_cons_zero, List.set_cons_succ])
              | (refine cq_call rfl 7 #[.pointer (some ⟨w0.heap.size + 1, 0, none⟩), .int .i64 up] (.bool false) ?_ HH.out ?_; (focus (intro W; go_simp; done)); simp only [Act.put, List.setIfInBounds_toArray, List.set_cons_zero, List.set_cons_succ])
              | (refine cq_call rfl 8 #[(.iface 56 (.pointer (some ⟨fb, 0, none⟩)))] (.int .i64 30) ?_ HK.out ?_; (focus (intro W; go_simp; done)); simp only [Act.put, List.setIfInBounds_toArray, List.set_cons_zero, List.set_cons_succ])
              | (refine cq_call rfl 9 #[(.iface 56 (.pointer (some ⟨fb, 0, none⟩)))] (.int .i64 up) ?_ HA.out ?_; (focus (intro W; go_simp; done)); simp only [Act.put, List.setIfInBounds_toArray, List.set_cons_zero, List.set_cons_succ]))
            refine wpQuiet_nil ?_
            intro w4 k4
            have HB5 : Aside (After w0 w0.heap.size (w0.heap.size + 1) most ob up v true (i + 1) w4) := after_mk n V U (by omega) (HB3.out.1.below k4) (HB3.out.2.below k4)
            clear HB3 HF HL3 HC HH HK HA k4
            go_wp2_with fail
            go_meet
            exact HB5.out
        | false =>
          have hn10 : n ≤ 1000 := by omega
          by_cases hr : (∃ u : Nat, up = (u : Int) ∧ u < n) ∨ n = 0 ∧ up = -1
          · by_cases hm : (n : Int) < most
            · go_wp2_with fail
              refine (HX.out.1.add up v hr hm hn10).mono ?_; rintro e w3 ⟨rfl, h3, -⟩
              obtain ⟨q0, q1, -⟩ := (h3.out.2 _ _ HX.out.2).get
              go_wp2_with fail
              clear q0 q1
              refine (h3.out.1.radd up v hr hm hn10).mono ?_; rintro e w4 ⟨rfl, h4, -⟩
              go_wp2_with fail
              have HB4 : Aside (Bo w0 w4 w0.heap.size (w0.heap.size + 1) most (n + 1) (upd V n v) (upd U n up) (n + 1) (upd V n v) (upd U n up) ∧ Box w4 ob #[.int .i64 up, .int .i64 v, .bool false]) := ⟨h4.out.1, h4.out.2 _ _ (h3.out.2 _ _ HX.out.2)⟩
              clear h3 h4
              have HC : Aside (∀ W, Kp w4 W → W.cell? ⟨ob, 0, none⟩ = some (.int .i64 up) ∧ W.cell? ⟨ob, 1, none⟩ = some (.int .i64 v)) := fun W hW => ⟨((HB4.out.2.below hW).get).1, ((HB4.out.2.below hW).get).2.1⟩
              have HK : Aside (∀ W, Kp w4 W → Calls Tryd.prog 8 #[.nilIface] W fun e w' => e = .returned (.int .i64 0) ∧ Kp w4 w') := fun W hW => (kind_nil W).mono fun _ _ ⟨h1, h2⟩ => ⟨h1, h2 ▸ hW⟩
              clear hr
              refine cq_region (by kernel_rfl) (by kernel_rfl) ?_
              repeat (first
                | (refine cq_skip rfl ?_; simp only [Act.put, List.setIfInBounds_toArray, List.set_cons_zero, List.set_cons_succ])
                | (refine cq_op rfl ?_; apply Exists.intro; refine ⟨fun W hW => ?_, ?_⟩; (focus (obtain ⟨l0, l1⟩ := HC.out W hW; go_simp; try rfl)); simp only [Act.put, List.setIfInBounds_toArray, List.set_cons_zero, List.set_cons_succ])
                | (refine cq_call rfl 8 #[.nilIface] (.int .i64 0) ?_ HK.out ?_; (focus (intro W; go_simp; done)); simp only [Act.put, List.setIfInBounds_toArray, List.set_cons_zero, List.set_cons_succ]))
              refine wpQuiet_nil ?_
              intro w5 k5
              have HB5 : Aside (After w0 w0.heap.size (w0.heap.size + 1) most ob up v false (i + 1) w5) := after_mk (n + 1) (upd V n v) (upd U n up) (by omega) (HB4.out.1.below k5) (HB4.out.2.below k5)
              clear HB4  HC HK  k5
              go_wp2_with fail
              go_meet
              exact HB5.out
            · have hm' : most ≤ (n : Int) := by omega
              clear hm
              go_wp2_with fail
              refine (HX.out.1.addMany up v hr hm').mono ?_; rintro e w3 ⟨fb, rfl, h3⟩
              have HB3 : Aside (Bo w0 w3 w0.heap.size (w0.heap.size + 1) most n V U n V U ∧ Box w3 ob #[.int .i64 up, .int .i64 v, .bool false]) := ⟨HX.out.1.below h3.out.2, HX.out.2.below h3.out.2⟩
              obtain ⟨q0, q1, -⟩ := HB3.out.2.get
              go_wp2_with fail
              clear q0 q1
              refine (HB3.out.1.raddMany up v hr hm').mono ?_; rintro e w4 ⟨rfl, h4⟩
              go_wp2_with fail
              have HB4 : Aside (Bo w0 w4 w0.heap.size (w0.heap.size + 1) most n V U n V U ∧ Box w4 ob #[.int .i64 up, .int .i64 v, .bool false]) := ⟨HB3.out.1.below h4, HB3.out.2.below h4⟩
              have HF : Aside (FaultAt w4 (.iface 56 (.pointer (some ⟨fb, 0, none⟩))) 15 up .nilIface) := h3.out.1.below h4 (Nat.le_refl _)
              have HL3 : Aside (Laid w4) := (HLa.out.below HB1.out (Nat.le_refl _)).below HB4.out.1.frame (Nat.le_refl _)
              clear HB3 h3 h4 hm'
              have HC : Aside (∀ W, Kp w4 W → W.cell? ⟨ob, 0, none⟩ = some (.int .i64 up) ∧ W.cell? ⟨ob, 1, none⟩ = some (.int .i64 v)) := fun W hW => ⟨((HB4.out.2.below hW).get).1, ((HB4.out.2.below hW).get).2.1⟩
              have HK : Aside (∀ W, Kp w4 W → Calls Tryd.prog 8 #[(.iface 56 (.pointer (some ⟨fb, 0, none⟩)))] W fun e w' => e = .returned (.int .i64 15) ∧ Kp w4 w') := fun W hW => (kind_fault _ _ _ _ W (HL3.out.below hW (Nat.le_refl _)) (HF.out.below hW (Nat.le_refl _))).mono fun _ _ ⟨h1, h2⟩ => ⟨h1, Kp.step hW h2⟩
              have HA : Aside (∀ W, Kp w4 W → Calls Tryd.prog 9 #[(.iface 56 (.pointer (some ⟨fb, 0, none⟩)))] W fun e w' => e = .returned (.int .i64 up) ∧ Kp w4 w') := fun W hW => (at_fault _ _ _ _ W (HL3.out.below hW (Nat.le_refl _)) (HF.out.below hW (Nat.le_refl _))).mono fun _ _ ⟨h1, h2⟩ => ⟨h1, Kp.step hW h2⟩
              clear hr
              refine cq_region (by kernel_rfl) (by kernel_rfl) ?_
              repeat (first
                | (refine cq_skip rfl ?_; simp only [Act.put, List.setIfInBounds_toArray, List.set_cons_zero, List.set_cons_succ])
                | (refine cq_op rfl ?_; apply Exists.intro; refine ⟨fun W hW => ?_, ?_⟩; (focus (obtain ⟨l0, l1⟩ := HC.out W hW; go_simp; try rfl)); simp only [Act.put, List.setIfInBounds_toArray, List.set_cons_zero, List.set_cons_succ])
                | (refine cq_call rfl 8 #[(.iface 56 (.pointer (some ⟨fb, 0, none⟩)))] (.int .i64 15) ?_ HK.out ?_; (focus (intro W; go_simp; done)); simp only [Act.put, List.setIfInBounds_toArray, List.set_cons_zero, List.set_cons_succ])
                | (refine cq_call rfl 9 #[(.iface 56 (.pointer (some ⟨fb, 0, none⟩)))] (.int .i64 up) ?_ HA.out ?_; (focus (intro W; go_simp; done)); simp only [Act.put, List.setIfInBounds_toArray, List.set_cons_zero, List.set_cons_succ]))
              refine wpQuiet_nil ?_
              intro w5 k5
              have HB5 : Aside (After w0 w0.heap.size (w0.heap.size + 1) most ob up v false (i + 1) w5) := after_mk n V U (by omega) (HB4.out.1.below k5) (HB4.out.2.below k5)
              clear HB4 HF HL3 HC HK HA k5
              go_wp2_with fail
              go_meet
              exact HB5.out
          · skip
            have hx : up < 0 ∨ (n : Int) ≤ up := by
              by_cases h0 : 0 ≤ up ∧ up < (n : Int)
              · exact absurd (.inl ⟨up.toNat, by omega, by omega⟩) hr
              · omega
            have hy : 0 < n ∨ up ≠ -1 := by
              by_cases h0 : n = 0 ∧ up = -1
              · exact absurd (.inr h0) hr
              · omega
            go_wp2_with fail
            refine (HX.out.1.addNo up v hx hy).mono ?_; rintro e w4 ⟨fb, rfl, h3⟩
            have HB4 : Aside (Bo w0 w4 w0.heap.size (w0.heap.size + 1) most n V U n V U ∧ Box w4 ob #[.int .i64 up, .int .i64 v, .bool false]) := ⟨HX.out.1.below h3.out.2, HX.out.2.below h3.out.2⟩
            obtain ⟨q0, q1, -⟩ := HB4.out.2.get
            go_wp2_with fail
            clear q0 q1
            refine (HB4.out.1.raddNo up v hx hy).mono ?_; rintro e wy ⟨rfl, rfl⟩
            go_wp2_with fail
            have HF : Aside (FaultAt w4 (.iface 56 (.pointer (some ⟨fb, 0, none⟩))) 30 up .nilIface) := h3.out.1
            have HL3 : Aside (Laid w4) := (HLa.out.below HB1.out (Nat.le_refl _)).below HB4.out.1.frame (Nat.le_refl _)
            clear h3 hx hy
            have HC : Aside (∀ W, Kp w4 W → W.cell? ⟨ob, 0, none⟩ = some (.int .i64 up) ∧ W.cell? ⟨ob, 1, none⟩ = some (.int .i64 v)) := fun W hW => ⟨((HB4.out.2.below hW).get).1, ((HB4.out.2.below hW).get).2.1⟩
            have HK : Aside (∀ W, Kp w4 W → Calls Tryd.prog 8 #[(.iface 56 (.pointer (some ⟨fb, 0, none⟩)))] W fun e w' => e = .returned (.int .i64 30) ∧ Kp w4 w') := fun W hW => (kind_fault _ _ _ _ W (HL3.out.below hW (Nat.le_refl _)) (HF.out.below hW (Nat.le_refl _))).mono fun _ _ ⟨h1, h2⟩ => ⟨h1, Kp.step hW h2⟩
            have HA : Aside (∀ W, Kp w4 W → Calls Tryd.prog 9 #[(.iface 56 (.pointer (some ⟨fb, 0, none⟩)))] W fun e w' => e = .returned (.int .i64 up) ∧ Kp w4 w') := fun W hW => (at_fault _ _ _ _ W (HL3.out.below hW (Nat.le_refl _)) (HF.out.below hW (Nat.le_refl _))).mono fun _ _ ⟨h1, h2⟩ => ⟨h1, Kp.step hW h2⟩
            clear hr
            refine cq_region (by kernel_rfl) (by kernel_rfl) ?_
            repeat (first
              | (refine cq_skip rfl ?_; simp only [Act.put, List.setIfInBounds_toArray, List.set_cons_zero, List.set_cons_succ])
              | (refine cq_op rfl ?_; apply Exists.intro; refine ⟨fun W hW => ?_, ?_⟩; (focus (obtain ⟨l0, l1⟩ := HC.out W hW; go_simp; try rfl)); simp only [Act.put, List.setIfInBounds_toArray, List.set_cons_zero, List.set_cons_succ])
              | (refine cq_call rfl 8 #[(.iface 56 (.pointer (some ⟨fb, 0, none⟩)))] (.int .i64 30) ?_ HK.out ?_; (focus (intro W; go_simp; done)); simp only [Act.put, List.setIfInBounds_toArray, List.set_cons_zero, List.set_cons_succ])
              | (refine cq_call rfl 9 #[(.iface 56 (.pointer (some ⟨fb, 0, none⟩)))] (.int .i64 up) ?_ HA.out ?_; (focus (intro W; go_simp; done)); simp only [Act.put, List.setIfInBounds_toArray, List.set_cons_zero, List.set_cons_succ]))
            refine wpQuiet_nil ?_
            intro w5 k5
            have HB5 : Aside (After w0 w0.heap.size (w0.heap.size + 1) most ob up v false (i + 1) w5) := after_mk n V U (by omega) (HB4.out.1.below k5) (HB4.out.2.below k5)
            clear HB4 HF HL3 HC HK HA k5
            go_wp2_with fail
            go_meet
            exact HB5.out
      case rest =>
        obtain ⟨n', V', U', hn', hB', hX'⟩ := hcut
        have HB7 : Aside (Bo w0 wc w0.heap.size (w0.heap.size + 1) most n' V' U' n' V' U' ∧ Box wc ob #[.int .i64 up, .int .i64 v, .bool s]) := ⟨hB', hX'⟩
        clear hB' hX' HX z0 z1 z2
        have hn10 : n' ≤ 1000 := by omega
        obtain ⟨va, vc, hv⟩ := HB7.out.1.vals
        have HC : Aside (∀ W, Kp wc W → W.cell? ⟨ob, 0, none⟩ = some (.int .i64 up) ∧ W.cell? ⟨w0.heap.size + 1, 0, none⟩ = some (.slice va n' vc)) := fun W hW => ⟨((HB7.out.2.below hW).get).1, (Below.cell hW (ltc hv)).trans hv⟩
        clear hv
        have HN : Aside (∀ W, Kp wc W → Calls Tryd.prog 12 #[.pointer (some ⟨w0.heap.size, 0, none⟩)] W fun e w' => e = .returned (.int .i64 n') ∧ Kp wc w') := fun W hW => ((HB7.out.1.below hW).len).mono fun _ _ ⟨h1, h2⟩ => ⟨h1, h2 ▸ hW⟩
        have S1 : Aside (∀ W, Kp wc W → Calls Tryd.prog 13 #[.pointer (some ⟨w0.heap.size, 0, none⟩), .pointer (some ⟨w0.heap.size + 1, 0, none⟩), .int .i64 up] W fun e w' => e = .returned (.bool true) ∧ Kp wc w') := fun W hW => ((HB7.out.1.below hW).same hn10 up).mono fun _ _ ⟨h1, h2⟩ => ⟨h1, Kp.step hW h2⟩
        have S2 : Aside (∀ W, Kp wc W → Calls Tryd.prog 13 #[.pointer (some ⟨w0.heap.size, 0, none⟩), .pointer (some ⟨w0.heap.size + 1, 0, none⟩), .int .i64 id] W fun e w' => e = .returned (.bool true) ∧ Kp wc w') := fun W hW => ((HB7.out.1.below hW).same hn10 id).mono fun _ _ ⟨h1, h2⟩ => ⟨h1, Kp.step hW h2⟩
        have S3 : Aside (∀ W, Kp wc W → Calls Tryd.prog 13 #[.pointer (some ⟨w0.heap.size, 0, none⟩), .pointer (some ⟨w0.heap.size + 1, 0, none⟩), .int .i64 ((n' : Int) - 1)] W fun e w' => e = .returned (.bool true) ∧ Kp wc w') := fun W hW => ((HB7.out.1.below hW).same hn10 ((n' : Int) - 1)).mono fun _ _ ⟨h1, h2⟩ => ⟨h1, Kp.step hW h2⟩
        have hw1 : IntKind.i64.wrap ((n' : Int) - 1) = (n' : Int) - 1 := IntWalk.i64_in _ (by omega)
        go_wp2_with fail
        refine cq_region (by kernel_rfl) (by kernel_rfl) ?_
        repeat (first
          | (refine cq_skip rfl ?_; simp only [Act.put, List.setIfInBounds_toArray, List.set_cons_zero, List.set_cons_succ])
          | (refine cq_op rfl ?_; apply Exists.intro; refine ⟨fun W hW => ?_, ?_⟩; (focus (obtain ⟨l0, l1⟩ := HC.out W hW; go_simp; try rfl)); simp only [Act.put, List.setIfInBounds_toArray, List.set_cons_zero, List.set_cons_succ])
          | (refine cq_call rfl 12 #[.pointer (some ⟨w0.heap.size, 0, none⟩)] (.int .i64 n') ?_ HN.out ?_; (focus (intro W; go_simp; done)); simp only [Act.put, List.setIfInBounds_toArray, List.set_cons_zero, List.set_cons_succ])
          | (refine cq_call rfl 13 #[.pointer (some ⟨w0.heap.size, 0, none⟩), .pointer (some ⟨w0.heap.size + 1, 0, none⟩), .int .i64 up] (.bool true) ?_ S1.out ?_; (focus (intro W; go_simp; done)); simp only [Act.put, List.setIfInBounds_toArray, List.set_cons_zero, List.set_cons_succ])
          | (refine cq_call rfl 13 #[.pointer (some ⟨w0.heap.size, 0, none⟩), .pointer (some ⟨w0.heap.size + 1, 0, none⟩), .int .i64 id] (.bool true) ?_ S2.out ?_; (focus (intro W; go_simp; done)); simp only [Act.put, List.setIfInBounds_toArray, List.set_cons_zero, List.set_cons_succ])
          | (refine cq_call rfl 13 #[.pointer (some ⟨w0.heap.size, 0, none⟩), .pointer (some ⟨w0.heap.size + 1, 0, none⟩), .int .i64 ((n' : Int) - 1)] (.bool true) ?_ S3.out ?_; (focus (intro W; go_simp; done)); simp only [Act.put, List.setIfInBounds_toArray, List.set_cons_zero, List.set_cons_succ]))
        refine wpQuiet_nil ?_
        intro w6 k6
        have HB8 : Aside (Bo w0 w6 w0.heap.size (w0.heap.size + 1) most n' V' U' n' V' U') := HB7.out.1.below k6
        clear HB7 HC HN S1 S2 S3 hw1 k6
        go_wp2_with fail
        go_roundg q
        case measure => have := hq2.out; omega
        case rel => exact ⟨i + 1, n', V', U', by go_num, by omega, hn', by have := hq.out; have := hq2.out; show _ = _; omega, HB8⟩
    · obtain rfl : i = len := by omega
      have hn10 : n ≤ 1000 := by omega
      have S0 := hBo.out.same hn10 0
      have HF0 : Aside (Below w0.heap.size w0 wr) := hBo.out.frame
      clear hBo hlt
      obtain ⟨wA, rfl⟩ : ∃ wA, wA = wr := ⟨_, rfl⟩
      go_wp2_with fail
      refine S0.mono ?_; rintro e w7 ⟨rfl, k7⟩
      go_wp2_with fail
      go_ret
      exact ⟨rfl, HB1.out.trans ((HF0.out.trans (k7.mono HF0.out.size)).mono HB1.out.size)⟩
end Go.Proofs.YtegbaocpacbljaaDoor.arenaPlays
