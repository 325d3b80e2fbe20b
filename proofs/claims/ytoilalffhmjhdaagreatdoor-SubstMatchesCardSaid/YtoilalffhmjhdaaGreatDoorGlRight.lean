/- The document's own answer of whether a text is in a pattern's language, where both are right. -/
import Derived.Test.YtoilalffhmjhdaaGreatDoorGlMatch
import Derived.Deep.RegionHeld3
import Derived.Test.YtoilalffhmjhdaaGreatDoorGpTail
set_option linter.unusedSimpArgs false
set_option linter.unusedVariables false
namespace Go.Proofs.YtoilalffhmjhdaaGreatDoor.glref
open Go.RowKit Go.Proofs.YtoilalffhmjhdaaGreatDoor.gtail Go.Proofs.YtoilalffhmjhdaaGreatDoor.errs Go.Proofs.YtoilalffhmjhdaaGreatDoor.utf Go.Proofs.YtoilalffhmjhdaaGreatDoor.umath Go.Proofs.YtoilalffhmjhdaaGreatDoor.text Go.Proofs.YtoilalffhmjhdaaGreatDoor.chars Go.Proofs.YtoilalffhmjhdaaGreatDoor.ref Go.Proofs.YtoilalffhmjhdaaGreatDoor.gmath Go.Proofs.YtoilalffhmjhdaaGreatDoor.rows

set_option maxRecDepth 100000 in
set_option maxHeartbeats 8000000 in
theorem rmatch_right (fold : Bool) (p s : ByteArray) (hp : p.size ≤ 1000000) (hs : s.size ≤ 1000000) (hc : checkOf p = (0, 0)) (hg : firstBad p = none) (hf : firstBad s = none) (w : World) :
    Calls Tryz.prog 80 #[.string p, .string s, .bool fold] w fun e w' => e = .returned (.bool (lang fold (all p) (all s))) ∧ Below w.heap.size w w' := by
  have CK := rcheck_any p hp w
  rw [hc] at CK
  have CK : Calls Tryz.prog 21 #[.string p] w fun e w' => e = .returned (.tuple #[.int .i64 0, .int .i64 0]) ∧ Below w.heap.size w w' := CK
  have hpl := all_le p
  have hsl := all_le s
  have pge := Lib.hid (all_ge p)
  have sge := Lib.hid (all_ge s)
  have HP := Lib.hid fun v w hv => chars_right hg v w hv hp
  have HS := Lib.hid fun v w hv => chars_right hf v w hv hs
  obtain ⟨L, hL⟩ : ∃ L, Hid (all p = L) := ⟨_, rfl⟩
  obtain ⟨T, hT⟩ : ∃ T, Hid (all s = T) := ⟨_, rfl⟩
  rw [hL.out] at hpl pge HP ⊢
  rw [hT.out] at hsl sge HS ⊢
  have hln : L.length ≤ 1000000 := by omega
  have htn : T.length ≤ 1000000 := by omega
  obtain ⟨res, hres⟩ : ∃ res, Hid (lang fold L T = res) := ⟨_, rfl⟩
  rw [hres.out]
  clear hc hg hf hL hT hpl hsl
  go_enter Tryz.func80, Tryz.ntmps80
  go_wp2_with fail
  refine CK.mono ?_; rintro e w1 ⟨rfl, hb1⟩
  obtain ⟨v1, W1, hv1, hs1⟩ := bytes_new p hp w1
  have C1 := HP.out v1 W1 hs1.out.1
  have hv1 := hv1.out
  have K1 : Aside (Keeps w W1) := Keeps.step hb1 hs1.out.2
  clear hs1 hb1 CK
  go_wp2_with fail
  refine C1.mono ?_; rintro e w2 ⟨x2, rfl, h2⟩
  obtain ⟨v3, W3, hv3, hs3⟩ := bytes_new s hs w2
  have C3 := HS.out v3 W3 hs3.out.1
  have hv3 := hv3.out
  have K3 : Aside (Keeps w W3 ∧ Nums W3 x2 L) := ⟨(K1.out.step h2.out.2).step hs3.out.2, h2.out.1.below hs3.out.2⟩
  clear hs3 h2 K1 C1 hv1
  go_wp2_with fail
  refine C3.mono ?_; rintro e w4 ⟨x4, rfl, h4⟩
  have K4 : Aside (Keeps w w4 ∧ Nums w4 x2 L ∧ Nums w4 x4 T) := ⟨K3.out.1.step h4.out.2, K3.out.2.below h4.out.2, h4.out.1⟩
  clear h4 K3 C3 hv3 HP HS
  obtain ⟨al, cl, hx2, hl1, hl2, -⟩ := K4.out.2.1
  obtain ⟨at4, ct, hx4, ht1, ht2, -⟩ := K4.out.2.2
  subst hx2 hx4
  obtain ⟨n, hn⟩ : ∃ n, Hid (T.length = n) := ⟨_, rfl⟩
  obtain ⟨m, hm⟩ : ∃ m, Hid (L.length = m) := ⟨_, rfl⟩
  rw [hn.out] at htn ht1 K4 ⊢
  rw [hm.out] at hln hl1 K4 ⊢
  have mk : ∀ W, (Instr.makeSlice 75 (.int .i64 ((n : Int) + 1)) (.int .i64 ((n : Int) + 1))).run Tryz.prog W = .ok (.slice (some ⟨W.heap.size, 0, none⟩) (n + 1) (n + 1)) (made W (n + 1)) := fun W => by
    have := run_made (n + 1) (by omega) W
    rwa [show ((n + 1 : Nat) : Int) = (n : Int) + 1 by omega] at this
  have R5 : Row (made w4 (n + 1)) w4.heap.size (n + 1) (fun _ => false) := made_row _ _
  have B5 : Below w4.heap.size w4 (made w4 (n + 1)) := made_below _ _
  obtain ⟨e0, e1⟩ := R5 n (by omega)
  obtain ⟨W6, hW6⟩ : ∃ W6, W6 = (made w4 (n + 1)).setCell ⟨w4.heap.size, n, none⟩ (.bool true) := ⟨_, rfl⟩
  have B6 : Below w4.heap.size w4 W6 := by rw [hW6]; exact B5.setCell (p := ⟨w4.heap.size, n, none⟩) (Nat.le_refl _) _
  have K6 : Aside (Keeps w W6 ∧ Nums W6 (.slice al m cl) L ∧ Nums W6 (.slice at4 n ct) T) := ⟨K4.out.1.step B6, K4.out.2.1.below B6, K4.out.2.2.below B6⟩
  have R6 : Aside (Row W6 w4.heap.size (n + 1) (at_ fold (L.drop m) T)) := by
    show Row _ _ _ _
    rw [hW6]
    refine (R5.set (by omega) true).congr fun k hk => ?_
    rw [← hm.out, List.drop_length, at_nil fold T k (by rw [hn.out]; omega), hn.out]
    by_cases e : k = n
    · rw [if_pos e, decide_eq_true e]
    · rw [if_neg e, decide_eq_false e]
  replace hW6 := Lib.hid hW6
  have z0 : (n : Int) ≤ 1000000 := by omega
  have z1 : (m : Int) ≤ 1000000 := by omega
  clear B5 B6 R5 K4
  go_wp2_with fail
  rw [← hW6.out]
  generalize w4.heap.size = eb at R6 ⊢
  clear e0 e1 hW6
  have SS := Lib.hid fun c x (hc : (0 : Int) ≤ c) (hx : (0 : Int) ≤ x) => same_still fold c x hc hx
  have SM := Lib.hid fun c x (hc : (0 : Int) ≤ c) (hx : (0 : Int) ≤ x) => same_any fold c x hc hx
  go_loopg [13, 14] m (fun g v0 v1 wr => ∃ (i1 b : Nat) (ii : Int), v0 = .slice (some ⟨b, 0, none⟩) (n + 1) (n + 1) ∧ v1 = .int .i64 ii ∧ ii = (i1 : Int) - 1 ∧ g = i1 ∧ i1 ≤ m ∧ Aside (Keeps W6 wr ∧ Row wr b (n + 1) (at_ fold (L.drop i1) T)))
  case atStart => exact ⟨m, eb, _, rfl, rfl, rfl, rfl, Nat.le_refl _, Keeps.refl _, R6.out⟩
  case round =>
    clear R6
    obtain ⟨i1, b, ii, rfl, rfl, hii, hg, hi1, hA⟩ := hrel
    cases i1 with
    | zero =>
      obtain rfl : ii = -1 := by omega
      obtain ⟨c0, -⟩ := hA.out.2 0 (by omega)
      have V : Aside (at_ fold (L.drop 0) T 0 = res) := hres.out
      have KK : Aside (Below w.heap.size w wr) := K6.out.1.step hA.out.1
      generalize at_ fold (L.drop 0) T 0 = q at c0 V
      clear hA hg hi1 hres hii
      go_wp2_with fail
      go_ret
      exact ⟨by rw [V.out]; rfl, KK.out⟩
    | succ i =>
      have hie : Hid (ii = (i : Int)) := by show ii = _; omega
      have u0 : 0 ≤ ii := by omega
      have u1 : ii < (m : Int) := by omega
      have u2 : ii.toNat = i := by omega
      have hgi : Hid (i < gk) := by show i < _; omega
      have him : Hid (i < m) := by show i < _; omega
      clear hii hg hi1
      have KI : Aside (Keeps W6 (made wr (n + 1)) ∧ Row (made wr (n + 1)) b (n + 1) (at_ fold (L.drop (i + 1)) T) ∧ Row (made wr (n + 1)) wr.heap.size (n + 1) (fun j => if n + 1 ≤ j then at_ fold (L.drop i) T j else false) ∧ wr.heap.size ≠ b ∧ W6.heap.size ≤ wr.heap.size) := by
        refine ⟨hA.out.1.step (made_below _ _), hA.out.2.below (made_below _ _), (made_row wr (n + 1)).congr fun k hk => by rw [if_neg (by omega)], ?_, hA.out.1.size⟩
        have := hA.out.2.lt (by omega)
        omega
      clear hA
      go_wp2_with fail
      generalize made wr (n + 1) = W7 at KI ⊢
      generalize wr.heap.size = nb at KI ⊢
      go_loopg [16] (n + 1) (fun g v0 wr => ∃ (k1 : Nat) (kk : Int), v0 = .int .i64 kk ∧ kk = (k1 : Int) - 1 ∧ g = k1 ∧ k1 ≤ n + 1 ∧ Aside (Keeps W6 wr ∧ Row wr b (n + 1) (at_ fold (L.drop (i + 1)) T) ∧ Row wr nb (n + 1) (fun j => if k1 ≤ j then at_ fold (L.drop i) T j else false) ∧ nb ≠ b ∧ W6.heap.size ≤ nb))
      case atStart => exact ⟨n + 1, _, rfl, by omega, rfl, Nat.le_refl _, KI.out⟩
      case round =>
        clear KI
        obtain ⟨k1, kk, rfl, hkk, hgk, hk1, hB⟩ := hrel
        cases k1 with
        | zero =>
          obtain rfl : kk = -1 := by omega
          have NX : Aside (Keeps W6 wr ∧ Row wr nb (n + 1) (at_ fold (L.drop i) T)) := ⟨hB.out.1, hB.out.2.2.1.congr fun j hj => if_pos (Nat.zero_le j)⟩
          clear hB hgk hkk hk1
          go_wp2_with fail
          go_roundg i
          case measure => exact hgi.out
          case rel => exact ⟨i, nb, _, rfl, rfl, by have := hie.out; omega, rfl, by have := him.out; omega, NX.out⟩
        | succ k =>
          have hke : Hid (kk = (k : Int)) := by show kk = _; omega
          have hkn : Hid (k ≤ n) := by show k ≤ n; omega
          have hgk2 : Hid (k < gk) := by show k < _; omega
          have w0 : 0 ≤ kk := by omega
          have w1 : kk ≤ (n : Int) := by omega
          have w2 : kk.toNat = k := by omega
          have w3 : (kk + 1).toNat = k + 1 := by omega
          have hkl : k < n + 1 := by omega
          have ST := Lib.hid (step_at fold L T i k (by rw [hm.out]; exact him.out) (by rw [hn.out]; exact hkn.out))
          have NR : Hid (∀ (w' : World) (X : Bool), Below wr.heap.size wr w' → X = at_ fold (L.drop i) T k → Keeps W6 (w'.setCell ⟨nb, k, none⟩ (.bool X)) ∧ Row (w'.setCell ⟨nb, k, none⟩ (.bool X)) b (n + 1) (at_ fold (L.drop (i + 1)) T) ∧ Row (w'.setCell ⟨nb, k, none⟩ (.bool X)) nb (n + 1) (fun j => if k ≤ j then at_ fold (L.drop i) T j else false) ∧ nb ≠ b ∧ W6.heap.size ≤ nb) := fun w' X hb hX => by
            obtain ⟨q1, q2, q3, q4, q5⟩ := hB.out
            refine ⟨(q1.step hb).setCell (p := ⟨nb, k, none⟩) q5 _, (q2.below hb).far q4 _, ((q3.below hb).set hkl X).congr fun j hj => ?_, q4, q5⟩
            by_cases e : j = k
            · rw [if_pos e, if_pos (by omega), hX, e]
            · rw [if_neg e]
              by_cases e2 : k ≤ j
              · rw [if_pos (by omega), if_pos e2]
              · rw [if_neg (by omega), if_neg e2]
          have NRD : Hid (∀ (w' : World) (X : Bool), Below wr.heap.size wr w' → X = at_ fold (L.drop i) T k → Keeps W6 (w'.setCell ⟨nb, k, none⟩ (.bool X)).drew ∧ Row (w'.setCell ⟨nb, k, none⟩ (.bool X)).drew b (n + 1) (at_ fold (L.drop (i + 1)) T) ∧ Row (w'.setCell ⟨nb, k, none⟩ (.bool X)).drew nb (n + 1) (fun j => if k ≤ j then at_ fold (L.drop i) T j else false) ∧ nb ≠ b ∧ W6.heap.size ≤ nb) := fun w' X hb hX => by
            obtain ⟨q1, q2, q3, q4, q5⟩ := NR.out w' X hb hX
            have kd : Keeps (w'.setCell ⟨nb, k, none⟩ (.bool X)) (w'.setCell ⟨nb, k, none⟩ (.bool X)).drew := Below.drew (Below.refl _ _)
            exact ⟨q1.step kd, q2.below kd, q3.below kd, q4, q5⟩
          have hw : IntKind.i64.wrap (kk + 1) = kk + 1 := by rw [IntKind.wrap_i64]; omega
          have w5 : kk < (n : Int) + 1 := by omega
          have hnb : nb ≠ b := hB.out.2.2.2.1
          have NUL := K6.out.2.1.below hB.out.1
          have NUT := K6.out.2.2.below hB.out.1
          obtain ⟨al', cl', q1, -, -, ql⟩ := NUL
          obtain ⟨at', ct', q2, -, -, qt⟩ := NUT
          obtain ⟨rfl, -, rfl⟩ : al = al' ∧ m = L.length ∧ cl = cl' := by simpa using q1
          obtain ⟨rfl, -, rfl⟩ : at4 = at' ∧ n = T.length ∧ ct = ct' := by simpa using q2
          obtain ⟨lb, lo, rfl, qlc⟩ := ql (by rw [hm.out]; have := him.out; omega)
          have lc := qlc i (by rw [hm.out]; exact him.out)
          have hnl : nb ≠ lb := by
            have := lt_of_cell (nums_at K6.out.2.1 i (by rw [hm.out]; exact him.out))
            have h5 := hB.out.2.2.2.2
            show nb ≠ lb
            simp at this
            omega
          obtain ⟨E0, hE0⟩ : ∃ E0, Hid (at_ fold (L.drop (i + 1)) T k = E0) := ⟨_, rfl⟩
          obtain ⟨c0, -⟩ := hB.out.2.1 k hkl
          obtain ⟨d0, d1⟩ := hB.out.2.2.1 k hkl
          rw [hE0.out] at c0
          have d0 : wr.cell? ⟨nb, k, none⟩ = some (.bool (if k + 1 ≤ k then at_ fold (L.drop i) T k else false)) := d0
          rw [if_neg (by omega)] at d0
          obtain ⟨c, hc⟩ : ∃ c, Hid (L.getD i 0 = c) := ⟨_, rfl⟩
          rw [hc.out] at lc
          have cge : 0 ≤ c := by rw [← hc.out]; exact pge.out i
          have NXT : Hid (k < n → ∃ E1 N1 x, (at_ fold (L.drop (i + 1)) T (k + 1) = E1 ∧ at_ fold (L.drop i) T (k + 1) = N1 ∧ T.getD k 0 = x ∧ 0 ≤ x) ∧ wr.cell? ⟨b, k + 1, none⟩ = some (.bool E1) ∧ wr.cell? ⟨nb, k + 1, none⟩ = some (.bool N1) ∧ ∃ tb to, at4 = some ⟨tb, to, none⟩ ∧ wr.cell? ⟨tb, to + k, none⟩ = some (.int .i64 x) ∧ nb ≠ tb) := fun hk => by
            refine ⟨_, _, _, ⟨rfl, rfl, rfl, sge.out k⟩, (hB.out.2.1 (k + 1) (by omega)).1, ?_, ?_⟩
            · have := (hB.out.2.2.1 (k + 1) (by omega)).1
              have : wr.cell? ⟨nb, k + 1, none⟩ = some (.bool (if k + 1 ≤ k + 1 then at_ fold (L.drop i) T (k + 1) else false)) := this
              rwa [if_pos (Nat.le_refl _)] at this
            · obtain ⟨tb, to, e, hq⟩ := qt (by rw [hn.out]; omega)
              refine ⟨tb, to, e, hq k (by rw [hn.out]; exact hk), ?_⟩
              subst e
              have := lt_of_cell (nums_at K6.out.2.2 k (by rw [hn.out]; exact hk))
              have h5 := hB.out.2.2.2.2
              simp at this
              omega
          clear hkk hgk hk1 q1 q2 ql qlc hB qt
          by_cases hkn2 : k < n
          · obtain ⟨E1, N1, x, ⟨hE1, hN1, hx, hx0⟩, c1, d2, tb, to, rfl, tc, hnt⟩ := NXT.out hkn2
            have HE1 := Lib.hid hE1
            have HN1 := Lib.hid hN1
            have HX := Lib.hid hx
            have w4 : kk < (n : Int) := by omega
            have w6 : 0 ≤ kk + 1 := by omega
            have w7 : kk + 1 < (n : Int) + 1 := by omega
            have w8' : kk + 1 ≤ (n : Int) := by omega
            have Hkn := Lib.hid hkn2
            clear hE1 hN1 hx NXT hkn2
            by_cases h42 : c = 42
            · subst h42
              cases E0
              · go_wp2_with fail
                go_roundg k
                case measure => exact hgk2.out
                case rel => exact ⟨k, _, rfl, by have := hke.out; omega, rfl, by have := hkn.out; omega, NR.out wr N1 (Below.refl _ _) (by rw [ST.out, hc.out]; unfold stepAt; rw [if_pos rfl, hE0.out, decide_eq_true (show k < T.length by rw [hn.out]; exact Hkn.out), HN1.out]; rfl)⟩
              · go_wp2_with fail
                go_roundg k
                case measure => exact hgk2.out
                case rel => exact ⟨k, _, rfl, by have := hke.out; omega, rfl, by have := hkn.out; omega, NR.out wr true (Below.refl _ _) (by rw [ST.out, hc.out]; unfold stepAt; rw [if_pos rfl, hE0.out]; rfl)⟩
            · have h42' : (c == 42) = false := beq_eq_false_iff_ne.2 h42
              have H42 := Lib.hid h42
              clear h42
              by_cases h63 : c = 63
              · subst h63
                go_wp2_with fail
                go_region
                go_wp2_with fail
                go_roundg k
                case measure => exact hgk2.out
                case rel => exact ⟨k, _, rfl, by have := hke.out; omega, rfl, by have := hkn.out; omega, NRD.out wr E1 (Below.refl _ _) (by rw [ST.out, hc.out]; unfold stepAt; rw [if_neg H42.out, decide_eq_true (show k < T.length by rw [hn.out]; exact Hkn.out), HE1.out, decide_eq_true rfl]; rfl)⟩
              · have h63' : (c == 63) = false := beq_eq_false_iff_ne.2 h63
                have H63 := Lib.hid h63
                have C := SM.out c x cge hx0 wr.drew
                obtain ⟨S, hS⟩ : ∃ S, Hid (sameC fold c x = S) := ⟨_, rfl⟩
                rw [hS.out] at C
                clear h63
                go_wp2_with fail
                cases S
                · have c1' : wr.drew.cell? ⟨b, k + 1, none⟩ = some (.bool E1) := c1
                  have lc' : wr.drew.cell? ⟨lb, lo + i, none⟩ = some (.int .i64 c) := lc
                  have tc' : wr.drew.cell? ⟨tb, to + k, none⟩ = some (.int .i64 x) := tc
                  have d0' : ({ wr with drawn := wr.drawn + 1 } : World).cell? ⟨nb, k, none⟩ = some (.bool false) := d0
                  have d1' : ({ wr with drawn := wr.drawn + 1 } : World).frozen? ⟨nb, k, none⟩ = false := d1
                  have CS : Calls Tryz.prog 90 #[.int .i64 c, .int .i64 x, .bool fold] { wr with drawn := wr.drawn + 1 } fun e w' => e = .returned (.bool false) ∧ w' = { wr with drawn := wr.drawn + 1 } := by
                    have := SS.out c x cge hx0 { wr with drawn := wr.drawn + 1 }
                    rwa [hS.out] at this
                  have C' : Calls Tryz.prog 90 #[.int .i64 c, .int .i64 x, .bool fold] wr.drew fun e w' => e = .returned (.bool false) ∧ Below wr.drew.heap.size wr.drew w' := C
                  have CS : Calls Tryz.prog 90 #[.int .i64 c, .int .i64 x, .bool fold] wr.drew fun e w' => e = .returned (.bool false) ∧ w' = wr.drew := CS
                  clear C C'
                  refine region_quiet_tail 33 (by kernel_rfl) (by kernel_rfl) ?_
                  simp only [List.take_succ_cons, List.take_zero, List.drop_succ_cons, List.drop_zero]
                  repeat (first | go_big_quiet_step (fail) | (go_big_quiet_want; go_big_quiet_op; apply Exists.intro; refine ⟨?_, ?_⟩; (focus exact CS); go_big_quiet_on))
                  refine wpQuiet_nil ?_
                  have d0' : wr.drew.cell? ⟨nb, k, none⟩ = some (.bool false) := d0
                  have d1' : wr.drew.frozen? ⟨nb, k, none⟩ = false := d1
                  go_wp2_with fail
                  go_roundg k
                  case measure => exact hgk2.out
                  case rel => exact ⟨k, _, rfl, by have := hke.out; omega, rfl, by have := hkn.out; omega, NR.out wr.drew false (Below.drew (Below.refl _ _)) (by rw [ST.out, hc.out]; unfold stepAt; rw [if_neg H42.out, decide_eq_true (show k < T.length by rw [hn.out]; exact Hkn.out), decide_eq_false H63.out, HX.out, hS.out]; rfl)⟩
                · have c1' : wr.drew.cell? ⟨b, k + 1, none⟩ = some (.bool E1) := c1
                  have lc' : wr.drew.cell? ⟨lb, lo + i, none⟩ = some (.int .i64 c) := lc
                  have tc' : wr.drew.cell? ⟨tb, to + k, none⟩ = some (.int .i64 x) := tc
                  have C' : Calls Tryz.prog 90 #[.int .i64 c, .int .i64 x, .bool fold] wr.drew fun e w' => e = .returned (.bool true) ∧ Below wr.drew.heap.size wr.drew w' := C
                  go_region_held3 (fun w' => w'.cell? ⟨b, k + 1, none⟩ = some (.bool E1) ∧ w'.cell? ⟨lb, lo + i, none⟩ = some (.int .i64 c) ∧ w'.cell? ⟨tb, to + k, none⟩ = some (.int .i64 x)) (first | with_reducible exact ⟨c1', lc', tc'⟩ | with_reducible exact ⟨g1, g2, g3⟩ | (refine ⟨?_, ?_, ?_⟩ <;> (first | rw [World.cell?_setCell_other _ _ _ _ (adr_ne hnb)] | rw [World.cell?_setCell_other _ _ _ _ (adr_ne hnl)] | rw [World.cell?_setCell_other _ _ _ _ (adr_ne hnt)]) <;> assumption)) ((go_at_call 90; refine C'.mono ?_; rintro e w8 ⟨rfl, hb8⟩; have g1 := (hb8.cell (p := ⟨b, k + 1, none⟩) (lt_of_cell c1)).trans c1; have g2 := (hb8.cell (p := ⟨lb, lo + i, none⟩) (lt_of_cell lc)).trans lc; have g3 := (hb8.cell (p := ⟨tb, to + k, none⟩) (lt_of_cell tc)).trans tc; obtain ⟨f0, f1⟩ := Cel.below (w := wr.drew) ⟨d0, d1⟩ hb8; have HB8 := Lib.hid hb8; clear hb8))
                  go_wp2_with fail
                  go_roundg k
                  case measure => exact hgk2.out
                  case rel => exact ⟨k, _, rfl, by have := hke.out; omega, rfl, by have := hkn.out; omega, NR.out w8 E1 (Keeps.step (Below.drew (Below.refl _ _)) HB8.out) (by rw [ST.out, hc.out]; unfold stepAt; rw [if_neg H42.out, decide_eq_true (show k < T.length by rw [hn.out]; exact Hkn.out), decide_eq_false H63.out, HX.out, hS.out, HE1.out]; rfl)⟩
          · have w4 : ¬ kk < (n : Int) := by omega
            have Hkn := Lib.hid hkn2
            clear NXT hkn2
            by_cases h42 : c = 42
            · subst h42
              cases E0
              · go_wp2_with fail
                go_roundg k
                case measure => exact hgk2.out
                case rel => exact ⟨k, _, rfl, by have := hke.out; omega, rfl, by have := hkn.out; omega, NR.out wr false (Below.refl _ _) (by rw [ST.out, hc.out]; unfold stepAt; rw [if_pos rfl, hE0.out, decide_eq_false (show ¬ k < T.length by rw [hn.out]; exact Hkn.out)]; rfl)⟩
              · go_wp2_with fail
                go_roundg k
                case measure => exact hgk2.out
                case rel => exact ⟨k, _, rfl, by have := hke.out; omega, rfl, by have := hkn.out; omega, NR.out wr true (Below.refl _ _) (by rw [ST.out, hc.out]; unfold stepAt; rw [if_pos rfl, hE0.out]; rfl)⟩
            · have h42' : (c == 42) = false := beq_eq_false_iff_ne.2 h42
              have H42 := Lib.hid h42
              clear h42
              go_wp2_with fail
              have hdec : decide (kk < (n : Int)) = false := decide_eq_false (by omega)
              go_region
              go_wp2_with fail
              go_roundg k
              case measure => exact hgk2.out
              case rel => exact ⟨k, _, rfl, by have := hke.out; omega, rfl, by have := hkn.out; omega, NRD.out wr false (Below.refl _ _) (by rw [ST.out, hc.out]; unfold stepAt; rw [if_neg H42.out, decide_eq_false (show ¬ k < T.length by rw [hn.out]; exact Hkn.out)]; rfl)⟩
end Go.Proofs.YtoilalffhmjhdaaGreatDoor.glref
