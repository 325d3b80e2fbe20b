/- The document's Prints: fingerprint by fingerprint put where it belongs, if it isn't there. -/
import Derived.Test.YtmaigbfmbhknhaaDoorPrRefHas
import Derived.StillTailTactics
set_option linter.unusedSimpArgs false
set_option linter.unusedVariables false
namespace Go.Proofs.YtmaigbfmbhknhaaDoor.prints
open Go.RowKit Go.Proofs.YtmaigbfmbhknhaaDoor.errs

/-- A load of a fingerprint ahead of a region's one call. -/
theorem still_load24 {ops : Array Oper} {w : World} {Q : Act → Prop} {a : Act} {o : Oper} {rest : List Oper} (hw : Region.wanted o (yielded ops a.tmps) = true) (x : Operand) (ho : o.op = .load 24 x)
    (b off : Nat) (hx : a.eval x = .pointer (some ⟨b, off, none⟩)) (p : Pr) (hc : At32 w b off p) (h : wpStill Tryd.prog ops w Q rest (a.put o.dst (.agg (enc p).toArray))) :
    wpStill Tryd.prog ops w Q (o :: rest) a := by
  unfold wpStill
  rw [if_pos hw]
  have hc' : w.rangeAt b off (enc p) := hc
  unfold Oper.still execOp
  simp only [ho, hx, Instr.loadAt, Instr.sureAddr, Sem.run_bind, Sem.run_pure, Result.andThen_ok, run_loadVar_mid w b off 24 (enc p) _ hc' Tryd.underlying24 rfl (size_enc p)]
  exact ⟨rfl, h⟩

theorem row_at {w : World} {a : Option Addr} {m c : Nat} {zs : List Pr} (h : Row w (.slice a m c) zs) {k : Nat} (hk : k < zs.length) : ∃ b off, a = some ⟨b, off, none⟩ ∧ At32 w b (off + k * 32) zs[k]! := by
  obtain ⟨a', cap, ev, -, -, -, h4⟩ := h
  simp only [Value.slice.injEq] at ev
  obtain ⟨rfl, -, -⟩ := ev
  obtain ⟨b, off, rfl, hB⟩ := h4 (by omega)
  exact ⟨b, off, rfl, hB k hk⟩

theorem own_kept {w w' : World} {B n : Nat} {e : TypeId} {s : Nat} {v : Value} {xs : List Value} (h : w.ownsRow B e s v n xs) (hk : Keeps w w') : w'.ownsRow B e s v n xs := by
  obtain ⟨h1, h2⟩ := h
  refine ⟨h1, ?_⟩
  rcases h2 with h2 | ⟨g, cap, cur, rfl, hB, hg, hr⟩
  · exact .inl h2
  · refine .inr ⟨g, cap, cur, rfl, hB, ?_, hr⟩
    have hlt : g < w.heap.size := by
      rcases Nat.lt_or_ge g w.heap.size with h | h
      · exact h
      · rw [Array.getElem?_eq_none h] at hg; cases hg
    rw [hk.block g hlt]
    exact hg

theorem row_take {w : World} {ad : Addr} {m c : Nat} {l : List Pr} (h : Row w (.slice (some ad) m c) l) {j : Nat} (hj : j ≤ m) : Row w (.slice (some ad) j c) (l.take j) := by
  obtain ⟨a', cap, ev, h1, h2, -, h4⟩ := h
  simp only [Value.slice.injEq] at ev
  obtain ⟨rfl, rfl, rfl⟩ := ev
  have hl : (l.take j).length = j := by rw [List.length_take]; omega
  refine ⟨_, c, by rw [hl], by omega, h2, fun h => (by cases h), fun h0 => ?_⟩
  rw [hl] at h0
  obtain ⟨b, off, e, hB⟩ := h4 (by omega)
  refine ⟨b, off, e, fun i hi => ?_⟩
  rw [hl] at hi
  have := hB i (by omega)
  rwa [show (l.take j)[i]! = l[i]! by rw [getElem!_pos _ i (by omega), getElem!_pos l i (by omega), List.getElem_take]]
theorem row_drop {w : World} {g m c : Nat} {l : List Pr} (h : Row w (.slice (some ⟨g, 0, none⟩) m c) l) {j : Nat} (hj : j ≤ m) : Row w (.slice (some ⟨g, j * 32, none⟩) (m - j) (c - j)) (l.drop j) := by
  obtain ⟨a', cap, ev, h1, h2, -, h4⟩ := h
  simp only [Value.slice.injEq] at ev
  obtain ⟨rfl, rfl, rfl⟩ := ev
  have hl : (l.drop j).length = l.length - j := by rw [List.length_drop]
  refine ⟨_, c - j, by rw [hl], by omega, by omega, fun h => (by cases h), fun h0 => ?_⟩
  rw [hl] at h0
  obtain ⟨b, off, e, hB⟩ := h4 (by omega)
  simp only [Option.some.injEq, Addr.mk.injEq, and_true] at e
  obtain ⟨rfl, rfl⟩ := e
  refine ⟨g, j * 32, rfl, fun i hi => ?_⟩
  rw [hl] at hi
  have := hB (j + i) (by omega)
  rw [show (l.drop j)[i]! = l[j + i]! by rw [getElem!_pos _ i (by omega), getElem!_pos l (j + i) (by omega), List.getElem_drop]]
  rwa [show 0 + (j + i) * 32 = j * 32 + i * 32 by omega] at this
theorem row_none (w : World) (ad : Addr) (c : Nat) (h : c ≤ 9223372036854775807) : Row w (.slice (some ad) 0 c) [] :=
  ⟨_, c, rfl, Nat.zero_le _, h, fun h => (by cases h), fun h => absurd h (by decide)⟩
theorem own_some {w : World} {B n : Nat} {v : Value} {xs : List Value} (h : w.ownsRow B 24 32 v n xs) (h0 : 0 < n) : ∃ g cap, v = .slice (some ⟨g, 0, none⟩) n cap ∧ n ≤ cap ∧ cap ≤ 9223372036854775807 ∧ B ≤ g := by
  rcases h.2 with ⟨rfl, hn⟩ | ⟨g, cap, cur, rfl, hB, hg, hn, hm, hs, ht⟩
  · omega
  · exact ⟨g, cap, rfl, hn, by unfold maxLen at hm; omega, hB⟩
theorem own_cast {w : World} {B e s : Nat} {v : Value} {n n' : Nat} {l l' : List Value} (h : w.ownsRow B e s v n l) (hn : n = n') (hl : l = l') : w.ownsRow B e s v n' l' := by subst hn; subst hl; exact h
theorem own_up {w : World} {B B' n : Nat} {v : Value} {xs : List Value} (h : w.ownsRow B' 24 32 v n xs) (hB : B ≤ B') : w.ownsRow B 24 32 v n xs := by
  refine ⟨h.1, ?_⟩
  rcases h.2 with h | ⟨g, cap, cur, e, hb, hr⟩
  · exact .inl h
  · exact .inr ⟨g, cap, cur, e, by omega, hr⟩

theorem fold_zip : ∀ (l : List Value) (k : Nat) (A : Array Value), A.size = k + l.length → (List.foldl (fun (cs : Array Value) (x : Value × Nat) => cs.setIfInBounds x.snd x.fst) A (l.zipIdx k)).toList = A.toList.take k ++ l
  | [], k, A, h => by
    simp only [List.zipIdx_nil, List.foldl_nil, List.append_nil]
    exact (List.take_of_length_le (by simpa using Nat.le_of_eq h)).symm
  | v :: l, k, A, h => by
    have hk : k < A.toList.length := by simp only [Array.length_toList, h, List.length_cons]; omega
    rw [List.zipIdx_cons, List.foldl_cons, fold_zip l (k + 1) _ (by simp only [Array.size_setIfInBounds, h, List.length_cons]; omega), Array.toList_setIfInBounds, List.take_succ_eq_append_getElem (by rw [List.length_set]; exact hk), List.getElem_set_self, List.take_set_of_le (Nat.le_refl _), List.append_assoc]
    rfl
theorem fold_enc (x : Pr) : List.foldl (fun (cs : Array Value) (x : Value × Nat) => cs.setIfInBounds x.snd x.fst) #[Value.int IntKind.u8 0, Value.int IntKind.u8 0, Value.int IntKind.u8 0, Value.int IntKind.u8 0, Value.int IntKind.u8 0, Value.int IntKind.u8 0, Value.int IntKind.u8 0, Value.int IntKind.u8 0, Value.int IntKind.u8 0, Value.int IntKind.u8 0, Value.int IntKind.u8 0, Value.int IntKind.u8 0, Value.int IntKind.u8 0, Value.int IntKind.u8 0, Value.int IntKind.u8 0, Value.int IntKind.u8 0, Value.int IntKind.u8 0, Value.int IntKind.u8 0, Value.int IntKind.u8 0, Value.int IntKind.u8 0, Value.int IntKind.u8 0, Value.int IntKind.u8 0, Value.int IntKind.u8 0, Value.int IntKind.u8 0, Value.int IntKind.u8 0, Value.int IntKind.u8 0, Value.int IntKind.u8 0, Value.int IntKind.u8 0, Value.int IntKind.u8 0, Value.int IntKind.u8 0, Value.int IntKind.u8 0, Value.int IntKind.u8 0] (enc x).zipIdx = (enc x).toArray := by
  apply Array.ext'
  rw [fold_zip (enc x) 0 _ (by rw [enc_length]; rfl)]
  simp

/-- How many come ahead, told step by step. -/
theorem place_of {l : List Pr} {x : Pr} {k : Nat} (hk : k ≤ l.length) (ha : ∀ j, j < k → lt l[j]! x = true) (hb : k < l.length → lt l[k]! x = false) : place l x = k := by
  unfold place
  induction l generalizing k with
  | nil => simp at hk; subst hk; rfl
  | cons a l ih =>
    cases k with
    | zero =>
      have := hb (by simp)
      simp only [List.getElem!_cons_zero] at this
      rw [List.takeWhile_cons, if_neg (by rw [this]; decide)]
      rfl
    | succ k =>
      have h0 := ha 0 (by omega)
      simp only [List.getElem!_cons_zero] at h0
      rw [List.takeWhile_cons, if_pos h0, List.length_cons, ih (k := k) (by simpa using hk) (fun j hj => by simpa using ha (j + 1) (by omega)) (fun h => by simpa using hb (by simpa using h))]

theorem ins_in {l : List Pr} {x : Pr} (h : among l x = true) : ins l x = l := by
  unfold ins
  rw [if_pos]
  unfold among at h
  rw [List.any_eq_true] at h
  obtain ⟨y, hy, e⟩ := h
  have e : x = y := by simpa using e
  exact e ▸ hy
theorem ins_out {l : List Pr} {x : Pr} (h : among l x = false) : ins l x = l.take (place l x) ++ [x] ++ l.drop (place l x) := by
  unfold ins
  rw [if_neg]
  intro hm
  unfold among at h
  rw [List.any_eq_false] at h
  exact h x hm (by simp)
theorem upto_succ {zs : List Pr} {k : Nat} (h : k < zs.length) : (zs.take (k + 1)).foldl ins [] = ins ((zs.take k).foldl ins []) zs[k]! := by
  rw [List.take_succ_eq_append_getElem h, List.foldl_append, getElem!_pos zs k h]
  rfl
theorem ins_length (l : List Pr) (x : Pr) : (ins l x).length ≤ l.length + 1 := by
  unfold ins
  split
  · omega
  · rw [List.length_append, List.length_append, List.length_take, List.length_drop, List.length_singleton]; omega
theorem upto_length {zs : List Pr} : ∀ {k : Nat}, k ≤ zs.length → ((zs.take k).foldl ins []).length ≤ k
  | 0, _ => by simp
  | k + 1, h => by
    rw [upto_succ (by omega)]
    have := upto_length (zs := zs) (k := k) (by omega)
    have := ins_length ((zs.take k).foldl ins []) zs[k]!
    omega

set_option maxHeartbeats 8000000 in
set_option maxRecDepth 100000 in
theorem refprints_any (zs : List Pr) (v : Value) (w : World) (h : Row w v zs) (hz : zs.length ≤ 1000) :
    Calls Tryd.prog 7 #[v] w fun e w' => ∃ v', e = .returned v' ∧ Row w' v' (wanted zs) ∧ Keeps w w' := by
  have H : Aside (Row w v zs) := h
  obtain ⟨a, cap, rfl, h1, h2, h3, h4⟩ := h
  clear h3 h4
  obtain ⟨n, hn⟩ : ∃ n, Hid (zs.length = n) := ⟨_, rfl⟩
  rw [hn.out] at h1 hz H ⊢
  go_enter Tryd.func7, Tryd.ntmps7
  go_wp2_with fail
  go_loopg [3, 4] n (fun g s3 s4 wr => ∃ (k m g3 c3 : Nat), s4 = .int .i64 k ∧ g + k = n ∧ s3 = .slice (some ⟨g3, 0, none⟩) m c3 ∧ m ≤ c3 ∧ c3 ≤ 9223372036854775807 ∧ m ≤ 1000 ∧ Aside (wr.ownsRow w.heap.size 24 32 s3 ((zs.take k).foldl ins []).length (flat ((zs.take k).foldl ins [])) ∧ Row wr s3 ((zs.take k).foldl ins []) ∧ ((zs.take k).foldl ins []).length = m ∧ Keeps w wr))
  case atStart =>
    have ho := World.ownsRow_lit (base := w.heap.size) (e := 24) (size := 32) w #[] 0 (Nat.le_refl _) (by unfold maxLen; omega) rfl
    exact ⟨0, 0, w.heap.size, 0, rfl, rfl, rfl, Nat.le_refl _, by omega, by omega, ho, own_row (zs := []) ho, rfl, keeps_new w _⟩
  case round =>
    obtain ⟨k, m, g3, c3, rfl, hg, rfl, hm1, hm2, hm3, hA⟩ := hrel
    obtain ⟨gq, hgq⟩ : ∃ gq, gq + 1 + k = n ∨ (gq = 0 ∧ n ≤ k) := ⟨n - k - 1, by omega⟩
    by_cases hlt : k < n
    · obtain ⟨b, off, ea, hB⟩ := row_at H.out (k := k) (by rw [hn.out]; exact hlt)
      subst ea
      have y0 : (0 : Int) ≤ (k : Int) := by omega
      have y1 : (k : Int) < (n : Int) := by omega
      obtain ⟨x, hx⟩ : ∃ x, Hid (zs[k]! = x) := ⟨_, rfl⟩
      rw [hx.out] at hB
      have LB : Aside (At32 wr b (off + k * 32) x) := hB.below hA.out.2.2.2 (Nat.le_refl _)
      have C := refhas_any _ _ x wr hA.out.2.1
      obtain ⟨l, hl⟩ : ∃ l, Hid ((zs.take k).foldl ins [] = l) := ⟨_, rfl⟩
      have hs : Hid ((zs.take (k + 1)).foldl ins [] = ins l x) := by rw [← hl.out, ← hx.out]; exact upto_succ (by rw [hn.out]; exact hlt)
      have hle : l.length ≤ k := by rw [← hl.out]; exact upto_length (by rw [hn.out]; omega)
      rw [hl.out] at hA C
      obtain ⟨W0, hW0⟩ : ∃ W0, Aside (W0 = wr) := ⟨_, rfl⟩
      cases hin : among l x with
      | true =>
        rw [hin] at C
        have I : Aside (ins l x = l) := ins_in hin
        clear hin
        go_wp2_with (first | (go_at_call 9; refine C.mono ?_; rintro e w' ⟨rfl, hk⟩) | (refine load24 rfl _ rfl _ _ rfl x LB.out ?_))
        go_roundg (gk - 1)
        case measure => omega
        case rel =>
          have e : (zs.take (k + 1)).foldl ins [] = l := hs.out.trans I.out
          refine ⟨k + 1, m, g3, c3, by go_num, by omega, rfl, hm1, hm2, hm3, ?_⟩
          rw [e]
          exact ⟨own_kept hA.out.1 hk, hA.out.2.1.below hk, hA.out.2.2.1, hA.out.2.2.2.step hk⟩
      | false =>
        rw [hin] at C
        have I : Aside (ins l x = l.take (place l x) ++ [x] ++ l.drop (place l x)) := ins_out hin
        clear hin
        go_wp2_with (first | (go_at_call 9; refine C.mono ?_; rintro e w1 ⟨rfl, k1⟩) | (refine load24 rfl _ rfl _ _ rfl x LB.out ?_))
        have N1 : Aside (w1.ownsRow w.heap.size 24 32 (.slice (some ⟨g3, 0, none⟩) m c3) l.length (flat l) ∧ Row w1 (.slice (some ⟨g3, 0, none⟩) m c3) l ∧ l.length = m ∧ Keeps w w1 ∧ At32 w1 b (off + k * 32) x) := ⟨own_kept hA.out.1 k1, hA.out.2.1.below k1, hA.out.2.2.1, hA.out.2.2.2.step k1, LB.out.below k1 (Nat.le_refl _)⟩
        clear C LB hA k1 hB
        go_loopg [5] m (fun g s5 wr2 => ∃ j : Nat, s5 = .int .i64 j ∧ g + j = m ∧ Aside (Keeps w1 wr2 ∧ ∀ i, i < j → lt l[i]! x = true))
        case atStart => exact ⟨0, rfl, rfl, Keeps.refl _, fun i hi => absurd hi (Nat.not_lt_zero _)⟩
        case round =>
          obtain ⟨j, rfl, hg2, hA2⟩ := hrel
          have z0 : (0 : Int) ≤ (j : Int) := by omega
          have c1 : Aside (At32 { wr with drawn := wr.drawn + 1 } b (off + k * 32) x) := fun i v hi => N1.out.2.2.2.2.below hA2.out.1 (Nat.le_refl _) i v hi
          by_cases hjm : j < m
          · have z1 : (j : Int) < (m : Int) := by omega
            obtain ⟨b3, o3, e3, hB3⟩ := row_at N1.out.2.1 (k := j) (by rw [N1.out.2.2.1]; exact hjm)
            simp only [Option.some.injEq, Addr.mk.injEq, and_true] at e3
            obtain ⟨rfl, rfl⟩ := e3
            obtain ⟨y, hy⟩ : ∃ y, Hid (l[j]! = y) := ⟨_, rfl⟩
            rw [hy.out, Nat.zero_add] at hB3
            have c2 : Aside (At32 { wr with drawn := wr.drawn + 1 } g3 (j * 32) y) := fun i v hi => hB3.below hA2.out.1 (Nat.le_refl _) i v hi
            have C := ahead_any y x { wr with drawn := wr.drawn + 1 }
            clear hB3
            cases hyx : lt y x with
            | true =>
              rw [hyx] at C
              have D : Aside (lt y x = true) := hyx
              clear hyx
              go_wp2_with fail
              refine wp_region_still_tail 13 (by kernel_rfl) (by kernel_rfl) ?_
              simp only [List.take_succ_cons, List.take_zero, List.drop_succ_cons, List.drop_zero]
              repeat (first
                | (refine still_load24 rfl _ rfl _ _ rfl _ (by first | exact c1.out | exact c2.out) ?_; simp only [Act.put, List.setIfInBounds_toArray, List.set_cons_zero, List.set_cons_succ])
                | still_step)
              refine wpStill_nil ?_
              go_wp2_with (go_at_call 20; refine C.mono ?_; rintro e w2 ⟨rfl, k2⟩)
              go_roundg (gk - 1)
              case measure => omega
              case rel =>
                refine ⟨j + 1, by go_num, by omega, hA2.out.1.step ((Below.drew (Below.refl _ wr)).trans k2), fun i hi => ?_⟩
                rcases (show i < j ∨ i = j by omega) with h | rfl
                · exact hA2.out.2 i h
                · rw [hy.out]; exact D.out
            | false =>
              rw [hyx] at C
              have D : Aside (place l x = j) := place_of (by rw [N1.out.2.2.1]; omega) hA2.out.2 (fun _ => by rw [hy.out]; exact hyx)
              clear hyx
              go_wp2_with fail
              refine wp_region_still_tail 13 (by kernel_rfl) (by kernel_rfl) ?_
              simp only [List.take_succ_cons, List.take_zero, List.drop_succ_cons, List.drop_zero]
              repeat (first
                | (refine still_load24 rfl _ rfl _ _ rfl _ (by first | exact c1.out | exact c2.out) ?_; simp only [Act.put, List.setIfInBounds_toArray, List.set_cons_zero, List.set_cons_succ])
                | still_step)
              refine wpStill_nil ?_
              go_wp2_with fail
              refine C.mono ?_; rintro e w2 ⟨rfl, k2⟩
              have K2 : Keeps w1 w2 := hA2.out.1.step ((Below.drew (Below.refl _ wr)).trans k2)
              have R2 : Aside (w2.ownsRow w.heap.size 24 32 (.slice (some ⟨g3, 0, none⟩) m c3) l.length (flat l) ∧ Row w2 (.slice (some ⟨g3, 0, none⟩) m c3) l ∧ Keeps w w2 ∧ At32 w2 b (off + k * 32) x) := ⟨own_kept N1.out.1 K2, N1.out.2.1.below K2, N1.out.2.2.2.1.step K2, N1.out.2.2.2.2.below K2 (Nat.le_refl _)⟩
              have hjl : j ≤ m := by omega
              clear k2 K2 hA2 c1
              go_wp2_with (at_builtin; refine append_any rfl _ _ rfl w2.heap.size (.slice (some ⟨w2.heap.size, 0, none⟩) 0 0) [] rfl (World.ownsRow_lit w2 #[] 0 (Nat.le_refl _) (by unfold maxLen; omega) rfl) (some ⟨g3, 0, none⟩) j c3 (l.take j) rfl ?p1a ?p1b ?p1c ?_)
              case p1a => exact (row_take (R2.out.2.1.below (keeps_new w2 (.cells #[] 24))) hjl).source
              case p1b => simp; omega
              case p1c => simp
              intro v4 w4 own4 grow4
              have hlm : l.length = m := N1.out.2.2.1
              have k4 : Keeps w2 w4 := ((Below.refl w2.heap.size w2).alloc (Nat.le_refl _) _).grown grow4 (by simp) (fun q hq => by simp [Value.ownBlock] at hq; omega)
              have S4 : Aside (w4.ownsRow w2.heap.size 24 32 v4 (l.take j).length (flat (l.take j)) ∧ Row w4 (.slice (some ⟨g3, 0, none⟩) m c3) l ∧ Keeps w2 w4 ∧ At32 w4 b (off + k * 32) x ∧ (l.take j).length = j) :=
                ⟨own_cast own4 (by simp) (by simp), R2.out.2.1.below k4, k4, R2.out.2.2.2.below k4 (Nat.le_refl _), by rw [List.length_take]; omega⟩
              clear own4 grow4 k4
              have fe := fold_enc x
              have fl := enc_length x
              go_wp2_with (first
                | (at_builtin; refine append_any rfl _ _ rfl w2.heap.size v4 (l.take j) rfl (own_kept S4.out.1 (keeps_new w4 (.cells (enc x).toArray 24))) (some ⟨w4.heap.size, 0, none⟩) 1 1 [x] rfl ?p1d ?p1e ?p1f ?_)
                | (refine load24 rfl _ rfl _ _ rfl x S4.out.2.2.2.1 ?_))
              case p1d => exact (show Row _ (.slice (some ⟨w4.heap.size, 0, none⟩) 1 1) [x] from ⟨_, 1, rfl, Nat.le_refl _, by omega, fun h => (by cases h), fun _ => ⟨w4.heap.size, 0, rfl, fun i hi => by
                obtain rfl : i = 0 := by simpa using hi
                exact at32_new w4 x 24⟩⟩).source
              case p1e => have := S4.out.2.2.2.2; simp only [List.length_singleton]; omega
              case p1f => have := S4.out.2.2.1.size; simp; omega
              intro v5 w5 own5 grow5
              have k5 : Keeps w2 w5 := S4.out.2.2.1.trans (((Below.refl w2.heap.size w4).alloc S4.out.2.2.1.size _).grown grow5 (by have := S4.out.2.2.1.size; simp; omega) (fun q hq => (S4.out.1.lt q hq).1))
              have S5 : Aside (w5.ownsRow w2.heap.size 24 32 v5 (l.take j ++ [x]).length (flat (l.take j ++ [x])) ∧ Row w5 (.slice (some ⟨g3, 0, none⟩) m c3) l ∧ Keeps w2 w5 ∧ (l.take j ++ [x]).length = j + 1) :=
                ⟨own_cast own5 (by simp [hlm]; omega) rfl, R2.out.2.1.below k5, k5, by rw [List.length_append, S4.out.2.2.2.2]; rfl⟩
              clear own5 grow5 k5 S4 fe fl
              by_cases hcj : c3 = j
              · have e1 : j = c3 := hcj.symm
                have e2 : j = m := by omega
                clear hcj
                subst e1
                subst e2
                go_wp2_with (at_builtin; refine append_any rfl _ _ rfl w2.heap.size v5 (l.take j ++ [x]) rfl S5.out.1 (some ⟨g3, 0, none⟩) 0 0 (l.drop j) rfl ?p3s ?p3c ?p3e ?_)
                case p3s => rw [List.drop_of_length_le (by omega)]; exact (row_none w5 ⟨g3, 0, none⟩ 0 (by omega)).source
                case p3c => simp only [List.length_append, List.length_take, List.length_drop, List.length_singleton]; omega
                case p3e => exact S5.out.2.2.1.size
                intro v6 w6 own6 grow6
                have e6 : l.take j ++ x :: l.drop j = ins l x := by rw [I.out, D.out, List.append_assoc]; rfl
                have l6 : (ins l x).length = l.length + 1 := by rw [← e6]; simp only [List.length_append, List.length_take, List.length_drop, List.length_cons]; omega
                replace own6 : w6.ownsRow w2.heap.size 24 32 v6 (ins l x).length (flat (ins l x)) := own_cast own6 (by rw [l6]; omega) (by rw [e6])
                have k6 : Keeps w2 w6 := S5.out.2.2.1.trans ((Below.refl w2.heap.size w5).grown grow6 S5.out.2.2.1.size (fun q hq => (S5.out.1.lt q hq).1))
                obtain ⟨g6, c6, rfl, q1, q2, q3⟩ := own_some own6 (by omega)
                have T6 : Aside (w6.ownsRow w.heap.size 24 32 (.slice (some ⟨g6, 0, none⟩) (ins l x).length c6) (ins l x).length (flat (ins l x)) ∧ Keeps w w6) := ⟨own_up own6 R2.out.2.2.1.size, R2.out.2.2.1.step k6⟩
                clear own6 grow6 k6 e6 S5
                obtain ⟨m6, hm6⟩ : ∃ m6, Hid ((ins l x).length = m6) := ⟨_, rfl⟩
                rw [hm6.out] at T6 q1 l6 ⊢
                go_wp2_with fail
                go_roundg (gq)
                case measure => omega
                case rel =>
                  refine ⟨k + 1, m6, g6, c6, by go_num, by omega, rfl, q1, q2, by omega, ?_⟩
                  rw [hs.out, hm6.out]
                  exact ⟨T6.out.1, own_row (own_cast T6.out.1 hm6.out.symm rfl), rfl, T6.out.2⟩
              · have i1 : (j : Int) ≤ (c3 : Int) := by omega
                have i2 : (j : Int) < (c3 : Int) := by omega
                have i3 : (j : Int) ≤ (m : Int) := by omega
                go_wp2_with (at_builtin; refine append_any rfl _ _ rfl w2.heap.size v5 (l.take j ++ [x]) rfl S5.out.1 (some ⟨g3, j * 32, none⟩) (m - j) (c3 - j) (l.drop j) rfl (row_drop S5.out.2.1 hjl).source ?p2c ?p2e ?_)
                case p2c => simp only [List.length_append, List.length_take, List.length_drop, List.length_singleton]; omega
                case p2e => exact S5.out.2.2.1.size
                intro v6 w6 own6 grow6
                have e6 : l.take j ++ x :: l.drop j = ins l x := by rw [I.out, D.out, List.append_assoc]; rfl
                have l6 : (ins l x).length = l.length + 1 := by rw [← e6]; simp only [List.length_append, List.length_take, List.length_drop, List.length_cons]; omega
                replace own6 : w6.ownsRow w2.heap.size 24 32 v6 (ins l x).length (flat (ins l x)) := own_cast own6 (by rw [l6]; omega) (by rw [e6])
                have k6 : Keeps w2 w6 := S5.out.2.2.1.trans ((Below.refl w2.heap.size w5).grown grow6 S5.out.2.2.1.size (fun q hq => (S5.out.1.lt q hq).1))
                obtain ⟨g6, c6, rfl, q1, q2, q3⟩ := own_some own6 (by omega)
                have T6 : Aside (w6.ownsRow w.heap.size 24 32 (.slice (some ⟨g6, 0, none⟩) (ins l x).length c6) (ins l x).length (flat (ins l x)) ∧ Keeps w w6) := ⟨own_up own6 R2.out.2.2.1.size, R2.out.2.2.1.step k6⟩
                clear own6 grow6 k6 e6 S5
                obtain ⟨m6, hm6⟩ : ∃ m6, Hid ((ins l x).length = m6) := ⟨_, rfl⟩
                rw [hm6.out] at T6 q1 l6 ⊢
                go_wp2_with fail
                go_roundg (gq)
                case measure => omega
                case rel =>
                  refine ⟨k + 1, m6, g6, c6, by go_num, by omega, rfl, q1, q2, by omega, ?_⟩
                  rw [hs.out, hm6.out]
                  exact ⟨T6.out.1, own_row (own_cast T6.out.1 hm6.out.symm rfl), rfl, T6.out.2⟩
          · have z1 : ¬ (j : Int) < (m : Int) := by omega
            have D : Aside (place l x = j) := place_of (by rw [N1.out.2.2.1]; omega) hA2.out.2 (fun h => absurd h (by rw [N1.out.2.2.1]; omega))
            have hjm' : j = m := by omega
            clear c1 hjm z1 hg2
            subst hjm'
            go_wp2_with fail
            go_quiet (fail)
            have k2 : Keeps w1 (wr.drewN nq) := below_drewN hA2.out.1 nq
            generalize wr.drewN nq = w2 at k2 ⊢
            have K2 : Keeps w1 w2 := k2
            have R2 : Aside (w2.ownsRow w.heap.size 24 32 (.slice (some ⟨g3, 0, none⟩) j c3) l.length (flat l) ∧ Row w2 (.slice (some ⟨g3, 0, none⟩) j c3) l ∧ Keeps w w2 ∧ At32 w2 b (off + k * 32) x) := ⟨own_kept N1.out.1 K2, N1.out.2.1.below K2, N1.out.2.2.2.1.step K2, N1.out.2.2.2.2.below K2 (Nat.le_refl _)⟩
            have hjl : j ≤ j := by omega
            clear k2 K2 hA2
            go_wp2_with (at_builtin; refine append_any rfl _ _ rfl w2.heap.size (.slice (some ⟨w2.heap.size, 0, none⟩) 0 0) [] rfl (World.ownsRow_lit w2 #[] 0 (Nat.le_refl _) (by unfold maxLen; omega) rfl) (some ⟨g3, 0, none⟩) j c3 (l.take j) rfl ?p4a ?p4b ?p4c ?_)
            case p4a => exact (row_take (R2.out.2.1.below (keeps_new w2 (.cells #[] 24))) hjl).source
            case p4b => simp; omega
            case p4c => simp
            intro v4 w4 own4 grow4
            have hlm : l.length = j := N1.out.2.2.1
            have k4 : Keeps w2 w4 := ((Below.refl w2.heap.size w2).alloc (Nat.le_refl _) _).grown grow4 (by simp) (fun q hq => by simp [Value.ownBlock] at hq; omega)
            have S4 : Aside (w4.ownsRow w2.heap.size 24 32 v4 (l.take j).length (flat (l.take j)) ∧ Row w4 (.slice (some ⟨g3, 0, none⟩) j c3) l ∧ Keeps w2 w4 ∧ At32 w4 b (off + k * 32) x ∧ (l.take j).length = j) :=
              ⟨own_cast own4 (by simp) (by simp), R2.out.2.1.below k4, k4, R2.out.2.2.2.below k4 (Nat.le_refl _), by rw [List.length_take]; omega⟩
            clear own4 grow4 k4
            have fe := fold_enc x
            have fl := enc_length x
            go_wp2_with (first
              | (at_builtin; refine append_any rfl _ _ rfl w2.heap.size v4 (l.take j) rfl (own_kept S4.out.1 (keeps_new w4 (.cells (enc x).toArray 24))) (some ⟨w4.heap.size, 0, none⟩) 1 1 [x] rfl ?p4d ?p4e ?p4f ?_)
              | (refine load24 rfl _ rfl _ _ rfl x S4.out.2.2.2.1 ?_))
            case p4d => exact (show Row _ (.slice (some ⟨w4.heap.size, 0, none⟩) 1 1) [x] from ⟨_, 1, rfl, Nat.le_refl _, by omega, fun h => (by cases h), fun _ => ⟨w4.heap.size, 0, rfl, fun i hi => by
              obtain rfl : i = 0 := by simpa using hi
              exact at32_new w4 x 24⟩⟩).source
            case p4e => have := S4.out.2.2.2.2; simp only [List.length_singleton]; omega
            case p4f => have := S4.out.2.2.1.size; simp; omega
            intro v5 w5 own5 grow5
            have k5 : Keeps w2 w5 := S4.out.2.2.1.trans (((Below.refl w2.heap.size w4).alloc S4.out.2.2.1.size _).grown grow5 (by have := S4.out.2.2.1.size; simp; omega) (fun q hq => (S4.out.1.lt q hq).1))
            have S5 : Aside (w5.ownsRow w2.heap.size 24 32 v5 (l.take j ++ [x]).length (flat (l.take j ++ [x])) ∧ Row w5 (.slice (some ⟨g3, 0, none⟩) j c3) l ∧ Keeps w2 w5 ∧ (l.take j ++ [x]).length = j + 1) :=
              ⟨own_cast own5 (by simp [hlm] <;> omega) rfl, R2.out.2.1.below k5, k5, by rw [List.length_append, S4.out.2.2.2.2]; rfl⟩
            clear own5 grow5 k5 S4 fe fl
            by_cases hcj : c3 = j
            · have e1 : j = c3 := hcj.symm
              clear hcj
              subst e1
              go_wp2_with (at_builtin; refine append_any rfl _ _ rfl w2.heap.size v5 (l.take j ++ [x]) rfl S5.out.1 (some ⟨g3, 0, none⟩) 0 0 (l.drop j) rfl ?p6s ?p6c ?p6e ?_)
              case p6s => rw [List.drop_of_length_le (by omega)]; exact (row_none w5 ⟨g3, 0, none⟩ 0 (by omega)).source
              case p6c => simp only [List.length_append, List.length_take, List.length_drop, List.length_singleton]; omega
              case p6e => exact S5.out.2.2.1.size
              intro v6 w6 own6 grow6
              have e6 : l.take j ++ x :: l.drop j = ins l x := by rw [I.out, D.out, List.append_assoc]; rfl
              have l6 : (ins l x).length = l.length + 1 := by rw [← e6]; simp only [List.length_append, List.length_take, List.length_drop, List.length_cons]; omega
              replace own6 : w6.ownsRow w2.heap.size 24 32 v6 (ins l x).length (flat (ins l x)) := own_cast own6 (by rw [l6]; omega) (by rw [e6])
              have k6 : Keeps w2 w6 := S5.out.2.2.1.trans ((Below.refl w2.heap.size w5).grown grow6 S5.out.2.2.1.size (fun q hq => (S5.out.1.lt q hq).1))
              obtain ⟨g6, c6, rfl, q1, q2, q3⟩ := own_some own6 (by omega)
              have T6 : Aside (w6.ownsRow w.heap.size 24 32 (.slice (some ⟨g6, 0, none⟩) (ins l x).length c6) (ins l x).length (flat (ins l x)) ∧ Keeps w w6) := ⟨own_up own6 R2.out.2.2.1.size, R2.out.2.2.1.step k6⟩
              clear own6 grow6 k6 e6 S5
              obtain ⟨m6, hm6⟩ : ∃ m6, Hid ((ins l x).length = m6) := ⟨_, rfl⟩
              rw [hm6.out] at T6 q1 l6 ⊢
              go_wp2_with fail
              go_roundg (gq)
              case measure => omega
              case rel =>
                refine ⟨k + 1, m6, g6, c6, by go_num, by omega, rfl, q1, q2, by omega, ?_⟩
                rw [hs.out, hm6.out]
                exact ⟨T6.out.1, own_row (own_cast T6.out.1 hm6.out.symm rfl), rfl, T6.out.2⟩
            · have i1 : (j : Int) ≤ (c3 : Int) := by omega
              have i2 : (j : Int) < (c3 : Int) := by omega
              have i3 : (j : Int) ≤ (j : Int) := by omega
              go_wp2_with (at_builtin; refine append_any rfl _ _ rfl w2.heap.size v5 (l.take j ++ [x]) rfl S5.out.1 (some ⟨g3, j * 32, none⟩) 0 (c3 - j) (l.drop j) rfl (by have h := (row_drop S5.out.2.1 hjl).source; rwa [Nat.sub_self] at h) ?p5c ?p5e ?_)
              case p5c => simp only [List.length_append, List.length_take, List.length_drop, List.length_singleton]; omega
              case p5e => exact S5.out.2.2.1.size
              intro v6 w6 own6 grow6
              have e6 : l.take j ++ x :: l.drop j = ins l x := by rw [I.out, D.out, List.append_assoc]; rfl
              have l6 : (ins l x).length = l.length + 1 := by rw [← e6]; simp only [List.length_append, List.length_take, List.length_drop, List.length_cons]; omega
              replace own6 : w6.ownsRow w2.heap.size 24 32 v6 (ins l x).length (flat (ins l x)) := own_cast own6 (by rw [l6]; omega) (by rw [e6])
              have k6 : Keeps w2 w6 := S5.out.2.2.1.trans ((Below.refl w2.heap.size w5).grown grow6 S5.out.2.2.1.size (fun q hq => (S5.out.1.lt q hq).1))
              obtain ⟨g6, c6, rfl, q1, q2, q3⟩ := own_some own6 (by omega)
              have T6 : Aside (w6.ownsRow w.heap.size 24 32 (.slice (some ⟨g6, 0, none⟩) (ins l x).length c6) (ins l x).length (flat (ins l x)) ∧ Keeps w w6) := ⟨own_up own6 R2.out.2.2.1.size, R2.out.2.2.1.step k6⟩
              clear own6 grow6 k6 e6 S5
              obtain ⟨m6, hm6⟩ : ∃ m6, Hid ((ins l x).length = m6) := ⟨_, rfl⟩
              rw [hm6.out] at T6 q1 l6 ⊢
              go_wp2_with fail
              go_roundg (gq)
              case measure => omega
              case rel =>
                refine ⟨k + 1, m6, g6, c6, by go_num, by omega, rfl, q1, q2, by omega, ?_⟩
                rw [hs.out, hm6.out]
                exact ⟨T6.out.1, own_row (own_cast T6.out.1 hm6.out.symm rfl), rfl, T6.out.2⟩
    · have hk : k = n := by omega
      subst hk
      have y1 : ¬ (k : Int) < (k : Int) := by omega
      go_wp2_with fail
      go_ret
      refine ⟨_, rfl, ?_, hA.out.2.2.2⟩
      have e : wanted zs = (zs.take k).foldl ins [] := by rw [← hn.out, List.take_length]; rfl
      rw [e]
      exact hA.out.2.1
end Go.Proofs.YtmaigbfmbhknhaaDoor.prints
