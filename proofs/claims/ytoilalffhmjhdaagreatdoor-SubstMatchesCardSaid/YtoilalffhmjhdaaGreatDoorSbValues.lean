/- held.values: the places that any of some values can end at. -/
import Derived.Test.YtoilalffhmjhdaaGreatDoorSbCheck
set_option linter.unusedSimpArgs false
set_option linter.unusedVariables false
namespace Go.Proofs.YtoilalffhmjhdaaGreatDoor.subst
open Go.RowKit Go.Proofs.YtoilalffhmjhdaaGreatDoor.errs Go.Proofs.YtoilalffhmjhdaaGreatDoor.rows Go.Proofs.YtoilalffhmjhdaaGreatDoor.utf Go.Proofs.YtoilalffhmjhdaaGreatDoor.chars Go.Proofs.YtoilalffhmjhdaaGreatDoor.gmath Go.Proofs.YtoilalffhmjhdaaGreatDoor.glref

/-- The right ones of some values, as characters that are looked at. -/
def okPats (fold : Bool) (vs : List ByteArray) : List (List Int) := (vs.filter okP).map fun s => (all s).map (fo fold)
theorem okPats_snoc (fold : Bool) (vs : List ByteArray) (s : ByteArray) : okPats fold (vs ++ [s]) = okPats fold vs ++ (if okP s then [(all s).map (fo fold)] else []) := by
  unfold okPats
  rw [List.filter_append, List.map_append]
  congr 1
  by_cases h : okP s = true
  · rw [if_pos h, List.filter_cons_of_pos h]; rfl
  · rw [if_neg h, List.filter_cons_of_neg h]; rfl
def reach (X : List Int) (Ps : List (List Int)) (L : List Nat) (j : Nat) : Bool := Ps.any fun P => (patL X P L).contains j
theorem reach_snoc (X : List Int) (Ps : List (List Int)) (P : List Int) (L : List Nat) (j : Nat) : reach X (Ps ++ [P]) L j = (reach X Ps L j || (patL X P L).contains j) := by
  unfold reach
  rw [List.any_append]
  simp
theorem take_val (l : List ByteArray) (i : Nat) (h : i < l.length) : l.take (i + 1) = l.take i ++ [l.getD i ⟨#[]⟩] := by
  rw [List.take_succ_eq_append_getElem h, List.getD_eq_getElem?_getD, List.getElem?_eq_getElem h]; rfl

theorem row_other {w w' : World} {b n : Nat} {f : Nat → Bool} (h : Row w b n f) (hb : w'.heap[b]? = w.heap[b]?) : Row w' b n f := fun k hk =>
  ⟨(World.cell?_of_block (a := ⟨b, k, none⟩) hb).trans (h k hk).1, (World.frozen?_of_block (a := ⟨b, k, none⟩) hb).trans (h k hk).2⟩
theorem Nats.set {w : World} {B : Nat} {v : Value} {L : List Nat} (h : Nats w B v L) {b k : Nat} (hb : b < B) (x : Value) : Nats (w.setCell ⟨b, k, none⟩ x) B v L := by
  refine ⟨h.1, h.2.imp id ?_⟩
  rintro ⟨g, cap, cur, e, h1, h2, h3⟩
  exact ⟨g, cap, cur, e, h1, (Below.heap_setCell w _ _ g (by show g ≠ b; omega)).trans h2, h3⟩
theorem range_filter (F : Nat → Bool) (k : Nat) : (List.range (k + 1)).filter F = (List.range k).filter F ++ (if F k then [k] else []) := by
  rw [List.range_succ, List.filter_append]
  congr 1
  by_cases h : F k = true
  · rw [if_pos h, List.filter_cons_of_pos h]; rfl
  · rw [if_neg h, List.filter_cons_of_neg h]; rfl
theorem good_len {n : Nat} {L : List Nat} (hg : Good n L) : L.length ≤ n + 1 := by
  have h1 : L.length ≤ (List.range (n + 1)).length := by
    refine List.Nodup.length_le_of_subset (hg.1.imp fun h => Nat.ne_of_lt h) (fun a ha => List.mem_range.2 (by have := hg.2 a ha; omega))
  rwa [List.length_range] at h1
/-- Between two values. -/
def OutI (w : World) (b rb rcap xn : Nat) (fold : Bool) (F : Nat → Bool) (W : World) : Prop :=
  Row W b (xn + 1) F ∧ Below w.heap.size w W ∧ W.heap[w.heap.size]? = some (.cells #[.slice (some ⟨rb, 0, none⟩) xn rcap, .bool fold] 66 (0, 0)) ∧ b < W.heap.size
theorem OutI.keeps {w W W' : World} {b rb rcap xn : Nat} {fold : Bool} {F : Nat → Bool} (h : OutI w b rb rcap xn fold F W) (hb : Keeps W W') : OutI w b rb rcap xn fold F W' :=
  ⟨h.1.below hb, h.2.1.trans (Below.mono hb h.2.1.size), (hb.block _ (Array.getElem?_eq_some_iff.1 h.2.2.1).1).trans h.2.2.1, Nat.lt_of_lt_of_le h.2.2.2 hb.size⟩
theorem OutI.set {w W : World} {b rb rcap xn : Nat} {fold : Bool} {F : Nat → Bool} (h : OutI w b rb rcap xn fold F W) (hb : w.heap.size < b) {k : Nat} (hk : k < xn + 1) : OutI w b rb rcap xn fold (fun j => if j = k then true else F j) (W.setCell ⟨b, k, none⟩ (.bool true)) :=
  ⟨h.1.set hk true, h.2.1.setCell (p := ⟨b, k, none⟩) (Nat.le_of_lt hb) _, (Below.heap_setCell W _ _ _ (by show w.heap.size ≠ b; omega)).trans h.2.2.1, by simp [World.setCell]; exact h.2.2.2⟩
theorem OutI.congr {w W : World} {b rb rcap xn : Nat} {fold : Bool} {F G : Nat → Bool} (h : OutI w b rb rcap xn fold F W) (e : ∀ k, k < xn + 1 → F k = G k) : OutI w b rb rcap xn fold G W := ⟨h.1.congr e, h.2⟩
set_option maxRecDepth 100000 in
set_option maxHeartbeats 4000000 in
theorem values_any (X : List Int) (rb rcap : Nat) (fold : Bool) (L : List Nat) (v vv : Value) (vs : List ByteArray) (w : World) (hC : Chs w rb rcap X) (hv : NatsIn w v L) (hs : StrsIn w vv vs) (hXl : X.length ≤ 1000000) (hg : Good X.length L) (hz : ∀ s ∈ vs, s.size ≤ 1000000) (hn : vs.length ≤ 1000000) (hT : Tabs w) :
    Calls Tryz.prog 53 #[.agg #[.slice (some ⟨rb, 0, none⟩) X.length rcap, .bool fold], v, vv] w fun e w' => PatOut (valsL X (okPats fold vs) L) w e w' := by
  obtain ⟨W0, hW0⟩ : ∃ W0, w.alloc (.cells #[.slice (some ⟨rb, 0, none⟩) X.length rcap, .bool fold] 66) = W0 := ⟨_, rfl⟩
  have hB0 : Keeps w W0 := by rw [← hW0]; exact (Below.refl _ _).alloc (Nat.le_refl _) _
  have HB0 : Hid (W0.heap[w.heap.size]? = some (.cells #[.slice (some ⟨rb, 0, none⟩) X.length rcap, .bool fold] 66 (0, 0)) ∧ w.heap.size < W0.heap.size ∧ Below w.heap.size w W0) := by
    refine ⟨?_, ?_, hB0⟩
    · rw [← hW0]; exact heap_alloc_new w _
    · rw [← hW0]; simp
  have HS := Lib.hid (⟨hC, hg, hXl, hv, hs, hT, hz⟩ : _ ∧ _ ∧ _ ∧ _ ∧ _ ∧ _ ∧ _)
  obtain ⟨a, cap, rfl⟩ := hs.form
  have h2 := hs.at.2.1
  have h3 := hs.at.2.2.1
  obtain ⟨n, hln⟩ : ∃ n, Hid (vs.length = n) := ⟨_, rfl⟩
  obtain ⟨xn, hxn⟩ : ∃ xn, Hid (X.length = xn) := ⟨_, rfl⟩
  rw [hln.out] at h2 hn ⊢
  rw [hxn.out] at hW0 HB0 hXl ⊢
  have HW0 := Lib.hid hW0
  have c0 : W0.cell? ⟨w.heap.size, 0, none⟩ = some (.slice (some ⟨rb, 0, none⟩) xn rcap) := cell_of_heap HB0.out.1 rfl
  have mk : ∀ W, (Instr.makeSlice 75 (.int .i64 ((xn : Int) + 1)) (.int .i64 ((xn : Int) + 1))).run Tryz.prog W = .ok (.slice (some ⟨W.heap.size, 0, none⟩) (xn + 1) (xn + 1)) (made W (xn + 1)) := fun W => by
    have := run_made (xn + 1) (by omega) W
    rwa [show ((xn + 1 : Nat) : Int) = (xn : Int) + 1 by omega] at this
  clear hC hv hs hg hz hT hB0 hW0
  go_enter Tryz.func53, Tryz.ntmps53
  go_wp2_with fail
  rw [HW0.out]
  have R0 : Hid (OutI w W0.heap.size rb rcap xn fold (reach X (okPats fold (vs.take 0)) L) (made W0 (xn + 1))) := by
    refine ⟨(made_row W0 (xn + 1)).congr fun k hk => rfl, HB0.out.2.2.trans ((made_below W0 (xn + 1)).mono HB0.out.2.2.size), ((made_below W0 (xn + 1)).block _ HB0.out.2.1).trans HB0.out.1, by rw [made_size]; omega⟩
  have LB : Hid (w.heap.size < W0.heap.size) := HB0.out.2.1
  have hb0 : W0.heap.size = w.heap.size + 1 := by rw [← HW0.out]; simp
  rw [hb0] at R0 LB
  clear HB0 c0 mk hb0
  generalize made W0 (xn + 1) = W1 at *
  go_loopg [22] n (fun g t wr => ∃ k : Nat, t = .int .i64 k ∧ g + k = n ∧ Hid (OutI w (w.heap.size + 1) rb rcap xn fold (reach X (okPats fold (vs.take k)) L) wr))
  case atStart => exact ⟨0, rfl, rfl, R0⟩
  case round =>
    clear R0
    obtain ⟨k, rfl, hg, hA⟩ := hrel
    have y0 : (0 : Int) ≤ (k : Int) := by omega
    by_cases hlt : k < n
    · have y1 : (k : Int) < (n : Int) := by omega
      have hS := HS.out.2.2.2.2.1.below hA.out.2.1
      rw [hln.out] at hS
      obtain ⟨sb, so, rfl, sc⟩ := hS.at.2.2.2 k hlt
      have hsz : (vs.getD k ⟨#[]⟩).size ≤ 1000000 := HS.out.2.2.2.2.2.2 _ (by rw [List.getD_eq_getElem?_getD, List.getElem?_eq_getElem (by rw [hln.out]; exact hlt)]; exact List.getElem_mem _)
      have TK : Hid (vs.take (k + 1) = vs.take k ++ [vs.getD k ⟨#[]⟩]) := take_val vs k (by rw [hln.out]; exact hlt)
      have hTw : Tabs wr := HS.out.2.2.2.2.2.1.below hA.out.2.1 (Nat.le_refl _)
      clear hS
      generalize vs.getD k ⟨#[]⟩ = s at *
      cases hok : okP s with
      | false =>
        have C := check_wrong hok hsz wr hTw
        have NX : Hid (okPats fold (vs.take (k + 1)) = okPats fold (vs.take k)) := by show _ = _; rw [TK.out, okPats_snoc, hok]; simp
        clear hok hTw
        go_wp2_with fail
        refine C.mono ?_; rintro e w2 ⟨bb, rfl, hb⟩
        have K2 : Hid (OutI w (w.heap.size + 1) rb rcap xn fold (reach X (okPats fold (vs.take (k + 1))) L) w2) := by show OutI _ _ _ _ _ _ _ _; rw [NX.out]; exact hA.out.keeps hb.out.2
        clear hb C hA sc
        go_wp2_with fail
        go_roundg (gk - 1)
        case measure => omega
        case rel => exact ⟨k + 1, by go_num, by omega, K2⟩
      | true =>
        have C := check_ok hok hsz wr hTw
        have NX : Hid (okPats fold (vs.take (k + 1)) = okPats fold (vs.take k) ++ [(all s).map (fo fold)]) := by show _ = _; rw [TK.out, okPats_snoc, hok]; simp
        clear hok hTw
        go_wp2_with fail
        refine C.mono ?_; rintro e w2 ⟨rfl, hb⟩
        have K2 : Hid (OutI w (w.heap.size + 1) rb rcap xn fold (reach X (okPats fold (vs.take k)) L) w2) := hA.out.keeps hb
        clear hb C hA sc
        have c0 : w2.cell? ⟨w.heap.size, 0, none⟩ = some (.slice (some ⟨rb, 0, none⟩) xn rcap) := cell_of_heap K2.out.2.2.1 rfl
        have c1 : w2.cell? ⟨w.heap.size, 1, none⟩ = some (.bool fold) := cell_of_heap K2.out.2.2.1 rfl
        have D := pattern_any X rb rcap fold L v s w2 (HS.out.1.below K2.out.2.1) (HS.out.2.2.2.1.below K2.out.2.1) (by rw [hxn.out]; exact hXl) HS.out.2.1 hsz
        have GQ : Hid (Good X.length (patL X ((all s).map (fo fold)) L)) := pat_good _ HS.out.2.1
        have RS : Hid (∀ j, reach X (okPats fold (vs.take (k + 1))) L j = (reach X (okPats fold (vs.take k)) L j || (patL X ((all s).map (fo fold)) L).contains j)) := fun j => by rw [NX.out, reach_snoc]
        rw [hxn.out] at D
        generalize patL X ((all s).map (fo fold)) L = Q at *
        clear NX TK
        go_wp2_with fail
        (with_reducible refine D.mono ?_); rintro e w3 ⟨v3, rfl, h3'⟩
        have K3 : Hid (OutI w (w.heap.size + 1) rb rcap xn fold (reach X (okPats fold (vs.take k)) L) w3 ∧ Nats w3 w2.heap.size v3 Q ∧ w.heap.size + 1 < w2.heap.size) := ⟨K2.out.keeps h3'.out.2, h3'.out.1, K2.out.2.2.2⟩
        clear h3' D c0 c1
        obtain ⟨qa, qc, hv3⟩ : ∃ qa qc, v3 = .slice qa Q.length qc := by
          obtain ⟨qa, qc, e, -⟩ := K3.out.2.1.reads
          exact ⟨qa, qc, e⟩
        subst hv3
        obtain ⟨qn, hqn⟩ : ∃ qn, Hid (Q.length = qn) := ⟨_, rfl⟩
        have hqb : qn ≤ 1000001 := by have := good_len GQ.out; rw [hqn.out, hxn.out] at this; omega
        rw [hqn.out] at K3 ⊢
        generalize w2.heap.size = B2 at *
        clear K2
        go_wp2_with fail
        go_loopg [34] qn (fun g t wr => ∃ i : Nat, t = .int .i64 i ∧ g + i = qn ∧ Hid (OutI w (w.heap.size + 1) rb rcap xn fold (fun j => reach X (okPats fold (vs.take k)) L j || (Q.take i).contains j) wr ∧ Nats wr B2 (.slice qa qn qc) Q ∧ w.heap.size + 1 < B2))
        case atStart => exact ⟨0, rfl, rfl, K3.out.1.congr (fun j _ => by simp), K3.out.2⟩
        case round =>
          clear K3
          obtain ⟨i, rfl, hgi, hB⟩ := hrel
          have z0 : (0 : Int) ≤ (i : Int) := by omega
          by_cases hli : i < qn
          · have z1 : (i : Int) < (qn : Int) := by omega
            obtain ⟨a', c', e', -, -, q⟩ := hB.out.2.1.reads
            obtain ⟨qb, hq1, hq2⟩ := q (by rw [hqn.out]; omega)
            obtain ⟨rfl, -, -⟩ : qa = a' ∧ qn = Q.length ∧ qc = c' := by simpa using e'
            subst hq1
            have cq := hq2 i (by rw [hqn.out]; exact hli)
            have hle : Q.getD i 0 ≤ xn := by
              rw [← hxn.out]
              exact GQ.out.2 _ (by rw [List.getD_eq_getElem?_getD, List.getElem?_eq_getElem (by rw [hqn.out]; exact hli)]; exact List.getElem_mem _)
            have TQ : Hid (Q.take (i + 1) = Q.take i ++ [Q.getD i 0]) := take_one Q i (by rw [hqn.out]; exact hli)
            clear q hq2 e'
            generalize Q.getD i 0 = x at *
            have x0 : (0 : Int) ≤ (x : Int) := by omega
            have x1 : (x : Int) < (xn : Int) + 1 := by omega
            obtain ⟨r0, r1⟩ := hB.out.1.1 x (by omega)
            have NX : Hid (OutI w (w.heap.size + 1) rb rcap xn fold (fun j => reach X (okPats fold (vs.take k)) L j || (Q.take (i + 1)).contains j) (wr.setCell ⟨w.heap.size + 1, x, none⟩ (.bool true)) ∧ Nats (wr.setCell ⟨w.heap.size + 1, x, none⟩ (.bool true)) B2 (.slice (some ⟨qb, 0, none⟩) qn qc) Q ∧ w.heap.size + 1 < B2) := by
              refine ⟨(hB.out.1.set LB.out (by omega)).congr fun j hj => ?_, hB.out.2.1.set hB.out.2.2 _, hB.out.2.2⟩
              rw [TQ.out]
              by_cases e : j = x
              · rw [if_pos e, e]; simp
              · rw [if_neg e]; simp [e]
            clear hB
            go_wp2_with fail
            go_roundg (gk - 1)
            case measure => omega
            case rel => exact ⟨i + 1, by go_num, by omega, NX⟩
          · obtain rfl : i = qn := by omega
            have z1 : ¬ (i : Int) < (i : Int) := by omega
            have NX : Hid (OutI w (w.heap.size + 1) rb rcap xn fold (reach X (okPats fold (vs.take (k + 1))) L) wr) := hB.out.1.congr fun j _ => by rw [RS.out, List.take_of_length_le (l := Q) (by rw [hqn.out]; omega)]
            clear hB
            go_wp2_with fail
            go_roundg (n - (k + 1))
            case measure => omega
            case rel => exact ⟨k + 1, by go_num, by omega, NX⟩
    · obtain rfl : k = n := by omega
      have y1 : ¬ (k : Int) < (k : Int) := by omega
      have R1 : Hid (OutI w (w.heap.size + 1) rb rcap xn fold (reach X (okPats fold vs) L) wr) := by
        have := hA.out
        rwa [List.take_of_length_le (l := vs) (by rw [hln.out]; omega)] at this
      have VR : Hid (valsL X (okPats fold vs) L = (List.range (xn + 1)).filter (reach X (okPats fold vs) L)) := by show _ = _; rw [← hxn.out]; rfl
      obtain ⟨VV, hVV⟩ : ∃ VV, Hid (valsL X (okPats fold vs) L = VV) := ⟨_, rfl⟩
      obtain ⟨i0, hi, hz0, hz1, hz2⟩ := info_parts infoInt
      generalize reach X (okPats fold vs) L = F at *
      clear hA hlt
      go_wp2_with fail
      go_loopg [12, 45] (xn + 1) (fun g u t wr => ∃ (j : Nat) (t0 : Value), t0 = u ∧ t = .int .i64 j ∧ g + j = xn + 1 ∧ Hid (OutI w (w.heap.size + 1) rb rcap xn fold F wr ∧ Nats wr (w.heap.size + 2) t0 ((List.range j).filter F)))
      case atStart => exact ⟨0, _, rfl, rfl, rfl, R1.out, World.ownsRow_nil _ _ _ _⟩
      case round =>
        clear R1
        obtain ⟨j, t0, rfl, rfl, hgj, hB⟩ := hrel
        have z0 : (0 : Int) ≤ (j : Int) := by omega
        by_cases hlj : j < xn + 1
        · have z1 : (j : Int) < (xn : Int) + 1 := by omega
          obtain ⟨r0, r1⟩ := hB.out.1.1 j hlj
          have RF : Hid ((List.range (j + 1)).filter F = (List.range j).filter F ++ (if F j then [j] else [])) := range_filter F j
          have ln : ((List.range j).filter F).length ≤ j := by
            have := List.length_filter_le F (List.range j)
            rwa [List.length_range] at this
          cases hF : F j with
          | false =>
            rw [hF] at r0
            have NX : Hid (OutI w (w.heap.size + 1) rb rcap xn fold F wr ∧ Nats wr (w.heap.size + 2) t0 ((List.range (j + 1)).filter F)) := by
              refine ⟨hB.out.1, ?_⟩
              rw [RF.out, hF]
              simpa using hB.out.2
            clear hB hF
            go_wp2_with fail
            go_roundg (gk - 1)
            case measure => omega
            case rel => exact ⟨j + 1, t0, rfl, by go_num, by omega, NX⟩
          | true =>
            rw [hF] at r0
            have RF2 : Hid ((List.range (j + 1)).filter F = (List.range j).filter F ++ [j]) := by show _ = _; rw [RF.out, hF]; rfl
            generalize (List.range j).filter F = J at *
            clear hF RF
            go_wp2_with (at_builtin; refine wpList_append_own_at _ rfl _ _ 68 rfl (w.heap.size + 2) 3 i0 _ 1 8 Tryz.underlying68 hi hz0 hz1 hz2 rfl (by decide) t0 J.length (nums J) rfl (World.ownsRow.alloc hB.out.2 _) ⟨wr.heap.size, 0, none⟩ 1 1 [.int .i64 (j : Int)] rfl rfl (cell_one_new _ _ _) (by simp [Value.oneCell']) (by unfold maxLen; omega) (by omega) (by have := hB.out.1.2.2.2; simp; omega) ?_; intro v' w1 hown hgrow hnil hat; have R1 := Lib.hid (⟨hown, hgrow, hat⟩ : _ ∧ _ ∧ _); clear hown hgrow hnil hat)
            have NX : Hid (OutI w (w.heap.size + 1) rb rcap xn fold F w1 ∧ Nats w1 (w.heap.size + 2) v' ((List.range (j + 1)).filter F)) := by
              obtain ⟨hown, hgrow, hat⟩ := R1.out
              obtain ⟨⟨o1, o2, o3, o4⟩, o5⟩ := hB.out
              have hge : ∀ g, t0.ownBlock = some g → w.heap.size + 2 ≤ g := fun g hg => o5.ge hg
              have hblk : ∀ q, q < w.heap.size + 2 → q < wr.heap.size → w1.heap[q]? = wr.heap[q]? := fun q h1 h2 => by
                refine (hgrow.block q (by simp; omega) (fun e => ?_)).trans (Below.heap_alloc wr _ q h2)
                have := hge q e.symm; omega
              have hs := hgrow.size
              simp only [World.size_alloc] at hs
              refine ⟨⟨row_other o1 (hblk _ (by omega) o4), ?_, (hblk _ (by omega) (by omega)).trans o3, by omega⟩, ?_⟩
              · exact (o2.alloc o2.size _).grown hgrow (by simp; have := o2.size; omega) (fun q hq => by have := hge q hq; omega)
              · rw [RF2.out]
                unfold Nats
                rw [List.length_append, List.length_singleton]
                have e : nums (J ++ [j]) = nums J ++ [.int .i64 (j : Int)] := by unfold nums; rw [List.map_append]; rfl
                rw [e]; exact hown
            clear R1 hB
            go_wp2_with fail
            go_roundg (gk - 1)
            case measure => omega
            case rel => exact ⟨j + 1, v', rfl, by go_num, by omega, NX⟩
        · obtain rfl : j = xn + 1 := by omega
          have z1 : ¬ ((xn + 1 : Nat) : Int) < (xn : Int) + 1 := by omega
          have V : Hid (Nats wr w.heap.size t0 VV ∧ Below w.heap.size w wr) := ⟨by rw [← hVV.out, VR.out]; exact hB.out.2.mono (by omega), hB.out.1.2.1⟩
          clear hB
          go_wp2_with fail
          go_ret
          exact ⟨t0, rfl, by rw [hVV.out]; exact V.out.1, V.out.2⟩
end Go.Proofs.YtoilalffhmjhdaaGreatDoor.subst
