/- glob.covers: whether parts, as a whole, stand for a text. -/
import Derived.Test.YtjijdaheabgphaaDoorGpState
import Derived.Deep.RegionHeld3
import Derived.Deep.DeepCutAuto
set_option linter.unusedSimpArgs false
set_option linter.unusedVariables false
namespace Go.Proofs.YtjijdaheabgphaaDoor.gparts
open Go.RowKit Go.Proofs.YtjijdaheabgphaaDoor.errs Go.Proofs.YtjijdaheabgphaaDoor.rows Go.Proofs.YtjijdaheabgphaaDoor.utf Go.Proofs.YtjijdaheabgphaaDoor.chars

def Two0 (w : World) (n : Nat) (v1 v2 : Value) (wx : World) : Prop := ∃ hb nb, v1 = .slice (some ⟨hb, 0, none⟩) n n ∧ v2 = .slice (some ⟨nb, 0, none⟩) n n ∧ Aside (Two w wx n hb nb (fun _ => false) (fun _ => false))
theorem two0_mk (w : World) (n : Nat) (hn : 0 < n) : Two w (made (made w.drew n) n) n w.heap.size (w.heap.size + 1) (fun _ => false) (fun _ => false) := by
  have b0 : Below w.heap.size w w.drew := Below.drew (Below.refl _ _)
  have e0 : w.drew.heap.size = w.heap.size := by simp
  have b1 := made_below w.drew n
  have b2 := made_below (made w.drew n) n
  have r1 := made_row w.drew n
  have r2 := made_row (made w.drew n) n
  rw [made_size, e0] at r2
  rw [e0] at r1
  exact ⟨(b0.trans (b1.mono (by omega))).trans (b2.mono (by rw [made_size]; omega)), r1.below b2, r2, by omega, Nat.le_refl _, by omega⟩

set_option maxRecDepth 100000 in
set_option maxHeartbeats 8000000 in
theorem covers_any (ps : List Pt) (v : Value) (s : ByteArray) (w : World) (hv : PartsIn w v ps) (hps : ps.length ≤ 1000000) (hz : s.size ≤ 1000000) :
    Calls Tryd.prog 27 #[v, .string s] w fun e w' => e = .returned (.bool (lg ps (all s))) ∧ Below w.heap.size w w' := by
  have HV : Aside (PartsIn w v ps) := hv
  obtain ⟨a, cap, rfl, h1, h2, -⟩ := hv
  obtain ⟨m, hm⟩ : ∃ m, Hid (s.size = m) := ⟨_, rfl⟩
  obtain ⟨n, hn⟩ : ∃ n, Hid (ps.length = n) := ⟨_, rfl⟩
  rw [hm.out] at hz
  rw [hn.out] at hps h1 HV ⊢
  obtain ⟨res, hres⟩ : ∃ res, Hid (lg ps (all s) = res) := ⟨_, rfl⟩
  rw [hres.out]
  have z0 : (n : Int) ≤ 1000000 := by omega
  have mk : ∀ W, (Instr.makeSlice 43 (.int .i64 ((n : Int) + 1)) (.int .i64 ((n : Int) + 1))).run Tryd.prog W = .ok (.slice (some ⟨W.heap.size, 0, none⟩) (n + 1) (n + 1)) (made W (n + 1)) := fun W => by
    have := run_made (n + 1) (by omega) W
    rwa [show ((n + 1 : Nat) : Int) = (n : Int) + 1 by omega] at this
  have wr1 : IntKind.i64.wrap ((n : Int) + 1) = (n : Int) + 1 := by rw [IntKind.wrap_i64]; omega
  have T0 := Lib.hid (two0_mk w (n + 1) (by omega))
  go_enter Tryd.func27, Tryd.ntmps27
  go_upto_region 1 with fail
  go_cut [5, 6] (fun s5 s6 wx => Two0 w (n + 1) s5 s6 wx)
  case first =>
    go_region_held3 (fun _ => True) (trivial) (fail)
    all_goals go_wp2_with fail
    all_goals go_meet
    · exact ⟨w.heap.size, w.heap.size + 1, rfl, by rw [made_size]; simp, T0.out⟩
    · exact ⟨w.heap.size + 1, w.heap.size, by rw [made_size]; simp, rfl, T0.out.swap⟩
  case rest =>
    clear wr1 mk
    obtain ⟨hb, nb, rfl, rfl, T1⟩ := hcut
    obtain ⟨e0, e1⟩ := T1.out.here 0 (by omega)
    obtain ⟨W2, hW2⟩ : ∃ W2, W2 = wc.setCell ⟨hb, 0, none⟩ (.bool true) := ⟨_, rfl⟩
    have T2 : Aside (Two w W2 (n + 1) hb nb (fun j => if j ≤ 0 then st ps [] j else false) (fun _ => false)) := by
      show Two _ _ _ _ _ _ _
      rw [hW2]
      refine (T1.out.setHere (by omega) true).congr (fun k hk => ?_) (fun _ _ => rfl)
      by_cases e : k = 0
      · subst e; rw [if_pos rfl, if_pos (Nat.le_refl _), st_first]
      · rw [if_neg e, if_neg (by omega)]
    replace hW2 := Lib.hid hW2
    clear T1
    go_wp2_with fail
    rw [← hW2.out]
    clear e0 e1 hW2
    go_loopg [25] n (fun g t wr => ∃ k : Nat, t = .int .i64 k ∧ g + k = n ∧ Aside (Two w wr (n + 1) hb nb (fun j => if j ≤ k then st ps [] j else false) (fun _ => false)))
    case atStart => exact ⟨0, rfl, rfl, T2.out⟩
    case round =>
      clear T2
      obtain ⟨k, rfl, hg, hA⟩ := hrel
      by_cases hlt : k < n
      · have y0 : (0 : Int) ≤ (k : Int) := by omega
        have y1 : (k : Int) < (n : Int) := by omega
        have y2 : (0 : Int) ≤ (k : Int) + 1 := by omega
        have y3 : (k : Int) + 1 < (n : Int) + 1 := by omega
        have y4 : (k : Int) < (n : Int) + 1 := by omega
        have y5 : ((k : Int) + 1).toNat = k + 1 := by omega
        obtain ⟨b, rfl, p0, p1, p2⟩ := (HV.out.below hA.out.keeps).at hlt
        have SS := Lib.hid (st_start ps k (by rw [hn.out]; exact hlt))
        obtain ⟨⟨c, f, mn⟩, hp⟩ : ∃ p, Hid (at_ ps k = p) := ⟨_, rfl⟩
        rw [hp.out] at p0 p1 p2
        have p0 : wr.cell? ⟨b, k * 3, none⟩ = some (.int .i32 c) := p0
        have p1 : wr.cell? ⟨b, k * 3 + 1, none⟩ = some (.bool f) := p1
        have p2 : wr.cell? ⟨b, k * 3 + 2, none⟩ = some (.bool mn) := p2
        obtain ⟨c0, -⟩ := hA.out.here k (by omega)
        obtain ⟨d0, d1⟩ := hA.out.here (k + 1) (by omega)
        dsimp only at c0 d0
        rw [if_pos (Nat.le_refl k)] at c0
        rw [if_neg (by omega)] at d0
        have l0 := lt_of_cell c0
        have l1 := lt_of_cell p0
        have l0 : hb < wr.heap.size := l0
        have l1 : b < wr.heap.size := l1
        obtain ⟨X, hX⟩ : ∃ X, Hid (st ps [] k = X) := ⟨_, rfl⟩
        rw [hX.out] at c0
        have NX : Hid (∀ (o : Obj) (Y : Bool), Y = (mn && X) → Two w ((wr.setCell ⟨hb, k + 1, none⟩ (.bool Y)).alloc o) (n + 1) hb nb (fun j => if j ≤ k + 1 then st ps [] j else false) (fun _ => false)) := fun o Y hY => by
          refine Two.below (Two.congr (hA.out.setHere (k := k + 1) (by omega) Y) (fun j hj => ?_) (fun _ _ => rfl)) ((Below.refl _ _).alloc (Nat.le_refl _) _)
          by_cases e : j = k + 1
          · subst e; rw [if_pos rfl, if_pos (Nat.le_refl _), hY, SS.out, hp.out, hX.out]
          · rw [if_neg e]
            by_cases e2 : j ≤ k
            · rw [if_pos e2, if_pos (by omega)]
            · rw [if_neg e2, if_neg (by omega)]
        clear hA SS
        cases mn with
        | true =>
          go_wp2_with fail
          go_roundg (gk - 1)
          case measure => omega
          case rel => exact ⟨k + 1, by go_num, by omega, NX.out _ _ rfl⟩
        | false =>
          go_wp2_with fail
          go_roundg (gk - 1)
          case measure => omega
          case rel => exact ⟨k + 1, by go_num, by omega, NX.out _ _ rfl⟩
      · obtain rfl : k = n := by omega
        have y1 : ¬ (k : Int) < (k : Int) := by omega
        have TA : Aside (Two w wr (k + 1) hb nb (st ps []) (fun _ => false)) := Two.congr hA.out (fun j hj => if_pos (by omega)) (fun _ _ => rfl)
        clear hA hg
        go_wp2_with fail
        have hit0 : Itr (wr.iter s 0) wr.heap.size s 0 := World.iter_heap wr s 0
        have TB : Two w (wr.iter s 0) (k + 1) hb nb (st ps []) (fun _ => false) := Two.below TA.out ((Below.refl _ _).alloc (Nat.le_refl _) _)
        have IT : Aside (Itr (wr.iter s 0) wr.heap.size s 0 ∧ Two w (wr.iter s 0) (k + 1) hb nb (st ps []) (fun _ => false)) := ⟨hit0, TB⟩
        have LK : Aside (w.heap.size ≤ wr.heap.size) := TA.out.keeps.size
        clear hit0 TB TA
        generalize wr.iter s 0 = W3 at IT ⊢
        generalize wr.heap.size = k0 at IT LK ⊢
        go_loopg [5, 6] m (fun g v0 v1 wr => ∃ (pos hb nb : Nat) (t : List Int) (G : Nat → Bool), v0 = .slice (some ⟨hb, 0, none⟩) (k + 1) (k + 1) ∧ v1 = .slice (some ⟨nb, 0, none⟩) (k + 1) (k + 1) ∧ pos ≤ m ∧ m ≤ pos + g ∧ Aside (t ++ from_ s g pos = all s ∧ G 0 = false ∧ Itr wr k0 s pos ∧ Two w wr (k + 1) hb nb (st ps t) G))
        case atStart => exact ⟨0, hb, nb, [], _, rfl, rfl, by omega, by omega, by simp [all, hm.out], rfl, IT.out.1, IT.out.2⟩
        case round =>
          clear IT
          obtain ⟨pos, hb, nb, t, G, rfl, rfl, hp, hg, hA⟩ := hrel
          by_cases hlt : pos < m
          · obtain ⟨g, rfl⟩ : ∃ g, gk = g + 1 := ⟨gk - 1, by omega⟩
            have hps : pos < s.size := by rw [hm.out]; exact hlt
            have hnx := fun ty => Lib.run_next_any_at (P := Tryd.prog) wr k0 s pos ty hA.out.2.2.1 hps
            have hf : Hid (t ++ ((Utf8.decode s pos).1 : Int) :: from_ s g (pos + (Utf8.decode s pos).2) = all s) := by
              have := hA.out.1
              rwa [from_step s g pos hps] at this
            have hfit := decode_fits s pos hps
            rw [hm.out] at hfit
            obtain ⟨-, b2, b3⟩ := decode_bounds s pos
            have M0 : Aside (∀ c, Mid w (wr.iterAt k0 s (pos + (Utf8.decode s pos).2)) ps k hb nb k0 (pos + (Utf8.decode s pos).2) s t c G 0) := fun c => ⟨Two.congr (hA.out.2.2.2.iterAt hA.out.2.2.1 (by omega) LK.out _) (fun _ _ => rfl) (fun i _ => by
              by_cases e : i ≤ 0
              · obtain rfl : i = 0 := by omega
                rw [if_pos e, st_zero]; exact hA.out.2.1
              · rw [if_neg e]), hA.out.2.2.1.at _⟩
            generalize ((Utf8.decode s pos).1 : Int) = c at *
            generalize (Utf8.decode s pos).2 = K at *
            generalize wr.iterAt k0 s (pos + K) = W at *
            have M1 : Aside (Mid w W ps k hb nb k0 (pos + K) s t c G 0) := M0.out c
            clear M0 hA hps
            go_wp2_with fail
            go_loopg [50] k (fun g v0 wr => ∃ j : Nat, v0 = .int .i64 j ∧ g + j = k ∧ Aside (Mid w wr ps k hb nb k0 (pos + K) s t c G j))
            case atStart => exact ⟨0, rfl, rfl, M1.out⟩
            case round =>
              clear M1 hnx
              obtain ⟨j, rfl, hgj, hB⟩ := hrel
              by_cases hlj : j < k
              · have y0 : (0 : Int) ≤ (j : Int) := by omega
                have y1 : (j : Int) < (k : Int) := by omega
                have y2 : (0 : Int) ≤ (j : Int) + 1 := by omega
                have y3 : (j : Int) + 1 < (k : Int) + 1 := by omega
                have y4 : (j : Int) < (k : Int) + 1 := by omega
                have y5 : ((j : Int) + 1).toNat = j + 1 := by omega
                obtain ⟨b, rfl, p0, p1, p2⟩ := (HV.out.below hB.out.two.keeps).at hlj
                have SS := Lib.hid (st_step ps t c j (by rw [hn.out]; exact hlj))
                obtain ⟨p, hp⟩ : ∃ p, Hid (at_ ps j = p) := ⟨_, rfl⟩
                rw [hp.out] at p0 p1 p2
                have TK := fun w => takes_any p c w
                obtain ⟨T, hT⟩ : ∃ T, Hid (p.takes c = T) := ⟨_, rfl⟩
                rw [hT.out] at TK
                obtain ⟨pc, f, mn⟩ := p
                have TK : ∀ w, Calls Tryd.prog 42 #[.agg #[.int .i32 pc, .bool f, .bool mn], .int .i32 c] w fun e w' => e = .returned (.bool T) ∧ Below w.heap.size w w' := TK
                have p0 : wr.cell? ⟨b, j * 3, none⟩ = some (.int .i32 pc) := p0
                have p1 : wr.cell? ⟨b, j * 3 + 1, none⟩ = some (.bool f) := p1
                have p2 : wr.cell? ⟨b, j * 3 + 2, none⟩ = some (.bool mn) := p2
                obtain ⟨c0, -⟩ := hB.out.two.here j (by omega)
                obtain ⟨c1, -⟩ := hB.out.two.here (j + 1) (by omega)
                obtain ⟨d0, -⟩ := hB.out.two.next j (by omega)
                obtain ⟨d1, d2⟩ := hB.out.two.next (j + 1) (by omega)
                dsimp only at d0 d1
                rw [if_pos (Nat.le_refl j)] at d0
                rw [if_neg (by omega)] at d1
                have l0 : hb < wr.heap.size := lt_of_cell c0
                have l1 : b < wr.heap.size := lt_of_cell p0
                have l2 : nb < wr.heap.size := lt_of_cell d0
                obtain ⟨H0, hH0⟩ : ∃ X, Hid (st ps t j = X) := ⟨_, rfl⟩
                obtain ⟨H1, hH1⟩ : ∃ X, Hid (st ps t (j + 1) = X) := ⟨_, rfl⟩
                obtain ⟨Y, hY⟩ : ∃ X, Hid (st ps (t ++ [c]) j = X) := ⟨_, rfl⟩
                rw [hH0.out] at c0
                rw [hH1.out] at c1
                rw [hY.out] at d0
                have VV : Hid (st ps (t ++ [c]) (j + 1) = if mn then Y || (H1 && T) else H0 && T) := by
                  show _ = _
                  rw [SS.out, hp.out, hH0.out, hH1.out, hY.out]
                  unfold stepP
                  rw [hT.out]
                obtain ⟨G1, hG1⟩ : ∃ X, Hid (G (j + 1) = X) := ⟨_, rfl⟩
                rw [hG1.out] at d1
                clear SS hH0 hH1 hY hp hT hG1
                have NX : Hid (∀ (o : Obj) (X : Bool), X = (if mn then Y || (H1 && T) else H0 && T) → Mid w ((wr.setCell ⟨nb, j + 1, none⟩ (.bool X)).alloc o) ps k hb nb k0 (pos + K) s t c G (j + 1)) := fun o X hX => (hB.out.store hlj X (by rw [VV.out]; exact hX)).below ((Below.refl _ _).alloc (Nat.le_refl _) _)
                cases mn with
                | true =>
                  cases Y with
                  | true =>
                    go_wp2_with fail
                    go_roundg (gk - 1)
                    case measure => omega
                    case rel => exact ⟨j + 1, by go_num, by omega, NX.out _ _ rfl⟩
                  | false =>
                    cases H1 with
                    | false =>
                      go_wp2_with fail
                      go_roundg (gk - 1)
                      case measure => omega
                      case rel => exact ⟨j + 1, by go_num, by omega, NX.out _ _ rfl⟩
                    | true =>
                      go_wp2_with fail
                      refine (TK _).mono ?_; rintro e w8 ⟨rfl, hb8⟩
                      have M8 : Aside (Mid w w8 ps k hb nb k0 (pos + K) s t c G j) := (hB.out.below ((Below.refl _ _).alloc (Nat.le_refl _) _)).below hb8
                      obtain ⟨f1, f2⟩ := M8.out.two.next (j + 1) (by omega)
                      have NX8 : Hid (Mid w (w8.setCell ⟨nb, j + 1, none⟩ (.bool T)) ps k hb nb k0 (pos + K) s t c G (j + 1)) := M8.out.store hlj T (by rw [VV.out]; cases T <;> rfl)
                      clear hb8 hB M8 d1 d2
                      go_wp2_with fail
                      go_roundg (gk - 1)
                      case measure => omega
                      case rel => exact ⟨j + 1, by go_num, by omega, NX8.out⟩
                | false =>
                  cases H0 with
                  | false =>
                    go_wp2_with fail
                    go_roundg (gk - 1)
                    case measure => omega
                    case rel => exact ⟨j + 1, by go_num, by omega, NX.out _ _ rfl⟩
                  | true =>
                    go_wp2_with fail
                    refine (TK _).mono ?_; rintro e w8 ⟨rfl, hb8⟩
                    have M8 : Aside (Mid w w8 ps k hb nb k0 (pos + K) s t c G j) := (hB.out.below ((Below.refl _ _).alloc (Nat.le_refl _) _)).below hb8
                    obtain ⟨f1, f2⟩ := M8.out.two.next (j + 1) (by omega)
                    have NX8 : Hid (Mid w (w8.setCell ⟨nb, j + 1, none⟩ (.bool T)) ps k hb nb k0 (pos + K) s t c G (j + 1)) := M8.out.store hlj T (by rw [VV.out]; cases T <;> rfl)
                    clear hb8 hB M8 d1 d2
                    go_wp2_with fail
                    go_roundg (gk - 1)
                    case measure => omega
                    case rel => exact ⟨j + 1, by go_num, by omega, NX8.out⟩
              · obtain rfl : j = k := by omega
                have y1 : ¬ (j : Int) < (j : Int) := by omega
                have R : Row wr nb (j + 1) (st ps (t ++ [c])) := Row.congr hB.out.two.next (fun i hi => if_pos (by omega))
                have CC := contains_any nb (j + 1) (j + 1) _ wr R (by omega)
                have TB : Aside (Two w wr (j + 1) hb nb (st ps t) (st ps (t ++ [c])) ∧ Itr wr k0 s (pos + K)) := ⟨Two.congr hB.out.two (fun _ _ => rfl) (fun i hi => if_pos (by omega)), hB.out.itr⟩
                clear R hB
                cases hA : anyT (j + 1) (st ps (t ++ [c])) with
                | false =>
                  rw [hA] at CC
                  have V : Aside (res = false) := by
                    have hd := st_dead ps (from_ s g (pos + K)) (t ++ [c]) (fun i hi => anyT_none hA i (by rw [hn.out] at hi; omega))
                    rw [List.append_assoc, List.singleton_append, hf.out] at hd
                    exact hres.out.symm.trans hd
                  clear hA
                  go_wp2_with fail
                  refine CC.mono ?_; rintro e w8 ⟨rfl, rfl⟩
                  go_wp2_with fail
                  go_ret
                  exact ⟨by rw [V.out]; rfl, TB.out.1.keeps⟩
                | true =>
                  rw [hA] at CC
                  obtain ⟨f1, f2⟩ := TB.out.1.here 0 (by omega)
                  clear hA
                  go_wp2_with fail
                  refine CC.mono ?_; rintro e w8 ⟨rfl, rfl⟩
                  go_wp2_with fail
                  go_roundg g
                  case measure => omega
                  case rel => exact ⟨pos + K, nb, hb, t ++ [c], _, rfl, rfl, by omega, by omega, by rw [List.append_assoc, List.singleton_append]; exact hf.out, rfl, TB.out.2.set (TB.out.2.ne TB.out.1.here (by omega)) _, (TB.out.1.setHere (by omega) false).swap⟩
          · have hpn : ¬ pos < s.size := by rw [hm.out]; exact hlt
            have hnx := fun ty => Lib.run_next_end_at (P := Tryd.prog) wr k0 s pos ty hA.out.2.2.1 hpn
            have V : Aside (t = all s) := by
              have := hA.out.1
              rw [from_end s gk pos (by omega)] at this
              exact (List.append_nil t).symm.trans this
            have q0 : (0 : Int) ≤ (k : Int) := by omega
            have q1 : (k : Int) < (k : Int) + 1 := by omega
            obtain ⟨c0, -⟩ := hA.out.2.2.2.here k (by omega)
            have R : Aside (st ps t k = res) := by
              show st ps t k = res
              rw [← hn.out, st_last, V.out, hres.out]
            rw [R.out] at c0
            clear R
            go_wp2_with fail
            go_ret
            exact ⟨rfl, hA.out.2.2.2.keeps⟩
end Go.Proofs.YtjijdaheabgphaaDoor.gparts
