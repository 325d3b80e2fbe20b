/- wire.takeOut: those requests are taken out that a test is true of. -/
import Derived.Test.YtelofhplpeeplaaDoorWrBook
import Derived.Deep.DeepCutAuto
import Derived.Shelf.Abstract
set_option linter.unusedSimpArgs false
set_option linter.unusedVariables false
namespace Go.Proofs.YtelofhplpeeplaaDoor.wire
open Go.RowKit Go.Proofs.YtelofhplpeeplaaDoor.errs

theorem flat6_next (p : Rq → Bool) (L : List Rq) (k : Nat) (h : k < L.length) (hp : p (at_ L k) = true) : flatE enc6 ((L.take (k + 1)).filter p) = flatE enc6 ((L.take k).filter p) ++ enc6 (at_ L k) ∧ ((L.take (k + 1)).filter p).length = ((L.take k).filter p).length + 1 := by
  rw [filt_next p L k h, if_pos hp, flatE_append, flatE_one, List.length_append]
  exact ⟨rfl, rfl⟩
theorem filt_no (p : Rq → Bool) (L : List Rq) (k : Nat) (h : k < L.length) (hp : p (at_ L k) = false) : (L.take (k + 1)).filter p = (L.take k).filter p := by
  rw [filt_next p L k h, hp]
  simp
theorem filt_le (p : Rq → Bool) (L : List Rq) (k : Nat) : ((L.take k).filter p).length ≤ k := Nat.le_trans (List.length_filter_le _ _) (by rw [List.length_take]; omega)
/-- What stands in the block within the loop. -/
structure Mid (p : Rq → Bool) (L : List Rq) (k : Nat) (D : List Rq) : Prop where
  len : D.length = L.length
  low : D.take ((L.take k).filter (fun x => !p x)).length = (L.take k).filter (fun x => !p x)
  high : D.drop k = L.drop k
theorem Mid.start (p : Rq → Bool) (L : List Rq) : Mid p L 0 L := ⟨rfl, by simp, rfl⟩
theorem Mid.at {p : Rq → Bool} {L D : List Rq} {k : Nat} (h : Mid p L k D) (hk : k < L.length) : at_ D k = at_ L k := by
  have h1 : k < D.length := by rw [h.len]; exact hk
  have := congrArg (fun l => l[0]?) h.high
  simp only [List.getElem?_drop, Nat.add_zero] at this
  rw [List.getElem?_eq_getElem h1, List.getElem?_eq_getElem hk] at this
  rw [at_get h1, at_get hk]
  exact Option.some.inj this
theorem drop_more {D L : List Rq} {k : Nat} (h : D.drop k = L.drop k) : D.drop (k + 1) = L.drop (k + 1) := by
  rw [← List.drop_drop, ← List.drop_drop, h]
theorem Mid.out {p : Rq → Bool} {L D : List Rq} {k : Nat} (h : Mid p L k D) (hk : k < L.length) (hp : p (at_ L k) = true) : Mid p L (k + 1) D := by
  refine ⟨h.len, ?_, drop_more h.high⟩
  rw [filt_no (fun x => !p x) L k hk (by rw [hp]; rfl)]
  exact h.low
theorem Mid.stay {p : Rq → Bool} {L D : List Rq} {k : Nat} (h : Mid p L k D) (hk : k < L.length) (hp : p (at_ L k) = false) : Mid p L (k + 1) (D.set ((L.take k).filter (fun x => !p x)).length (at_ L k)) := by
  have hl := filt_le (fun x => !p x) L k
  have h0 : (!p (at_ L k)) = true := by rw [hp]; rfl
  have hn := filt_next (fun x => !p x) L k hk
  rw [if_pos h0] at hn
  have low := h.low
  have high := h.high
  have len := h.len
  generalize (L.take k).filter (fun x => !p x) = A at *
  refine ⟨by rw [List.length_set]; exact len, ?_, ?_⟩
  · rw [hn, List.length_append, List.set_eq_take_append_cons_drop, if_pos (by omega), low, List.take_append, List.length_singleton]
    rw [show A.length + 1 - A.length = 1 by omega, List.take_of_length_le (by omega)]
    rfl
  · rw [List.drop_set_of_lt (by omega)]
    exact drop_more high
theorem Mid.done {p : Rq → Bool} {L D : List Rq} {k : Nat} (h : Mid p L k D) (hk : L.length ≤ k) : D.take (L.filter (fun x => !p x)).length = L.filter (fun x => !p x) := by
  have := h.low
  rw [List.take_of_length_le hk] at this
  exact this

set_option maxRecDepth 100000 in
set_option maxHeartbeats 1000000 in
theorem takeOut_none (gf : FuncId) (caps : Array Value) (p : Rq → Bool) (bb base N : Nat) (w : World) (hB : Bk w bb base (.slice none 0 0) N []) :
    Calls Tryd.prog 31 #[.pointer (some ⟨bb, 0, none⟩), .func (.func gf) #[] caps] w (TakeOut p w bb base (.slice none 0 0) N []) := by
  have c1 := hB.blk.get 1
  have f1 := hB.blk.frz 1
  simp only [List.getElem?_toArray, List.getElem?_cons_zero, List.getElem?_cons_succ] at c1
  have HB := Lib.hid hB
  have hcl := fun ty => wipe_nil w ty
  clear hB
  go_enter Tryd.func31, Tryd.ntmps31
  go_wp2_with fail
  go_loopg [5, 6, 19] 0 (fun g t5 t6 a wr => t5 = .slice none 0 0 ∧ t6 = .slice none 0 0 ∧ a = .int .i64 0 ∧ w = wr)
  case atStart => exact ⟨rfl, rfl, rfl, rfl⟩
  case round =>
    obtain ⟨rfl, rfl, rfl, rfl⟩ := hrel
    go_wp2_with fail
    go_ret
    refine ⟨⟨_, rfl, ?_⟩, ⟨.slice none 0 0, ⟨?_, HB.out.above, ?_, HB.out.apart⟩, rfl⟩, (Far.refl _ _ _).set _ _⟩
    · exact World.ownsRow_nil _ _ _ _
    · exact HB.out.blk.set 1 _
    · exact World.ownsRow_nil _ _ _ _

theorem mid_below {w wr w2 : World} {g bb cap n N : Nat} {D M : List Rq} {r : Value} (h1 : wr.ownsRow w.heap.size 45 6 r M.length (flatE enc6 M)) (h2 : RowAt wr g cap D) (h3 : Far bb (some g) w wr) (h4 : Blk wr bb #[.int .u64 (N : Int), .slice (some ⟨g, 0, none⟩) n cap] 74)
    {o : Obj} (hb : Below (wr.alloc o).heap.size (wr.alloc o) w2) :
    w2.ownsRow w.heap.size 45 6 r M.length (flatE enc6 M) ∧ RowAt w2 g cap D ∧ Far bb (some g) w w2 ∧ Blk w2 bb #[.int .u64 (N : Int), .slice (some ⟨g, 0, none⟩) n cap] 74 := by
  have hB : Below wr.heap.size wr w2 := ((Below.refl _ wr).alloc (Nat.le_refl _) o).trans (hb.mono (by simp))
  refine ⟨h1.kept (row := none) ⟨hB.os, hB.tape, hB.output, hB.size, fun k hk _ => hB.block k hk⟩ (by cases r.ownBlock <;> simp), h2.keep (hB.block _ h2.lt), h3.trans (far_below hB (Nat.le_refl _)), h4.below hB h4.lt⟩
theorem mid_grown {w w2 w4 : World} {g bb cap n N : Nat} {D M : List Rq} {r : Value} (h1 : w2.ownsRow w.heap.size 45 6 r M.length (flatE enc6 M)) (h2 : RowAt w2 g cap D) (h3 : Far bb (some g) w w2) (h4 : Blk w2 bb #[.int .u64 (N : Int), .slice (some ⟨g, 0, none⟩) n cap] 74)
    (hg : g < w.heap.size) (hbl : bb < w.heap.size) {o : Obj} (hG : (w2.alloc o).grownBy w4 r.ownBlock) :
    RowAt w4 g cap D ∧ Far bb (some g) w w4 ∧ Blk w4 bb #[.int .u64 (N : Int), .slice (some ⟨g, 0, none⟩) n cap] 74 := by
  have fresh : ∀ q, r.ownBlock = some q → w.heap.size ≤ q := fun q hq => (h1.lt q hq).1
  have old : ∀ k, k < w.heap.size → w4.heap[k]? = w2.heap[k]? := fun k hk => by
    have h5 : k < w2.heap.size := Nat.lt_of_lt_of_le hk h3.size
    rw [hG.block k (by simp; omega) (fun e => by have := fresh k e.symm; omega)]
    exact heap_alloc_old w2 o h5
  exact ⟨h2.keep (old g hg), (h3.alloc o).grown hG (.inr fresh), (old bb hbl).trans h4⟩

theorem row_ne {w w2 : World} {bb : Nat} {M : List Rq} {r : Value} (h1 : w2.ownsRow w.heap.size 45 6 r M.length (flatE enc6 M)) (hb : bb < w.heap.size) : r.ownBlock = none ∨ r.ownBlock ≠ some bb := by
  cases hr : r.ownBlock with
  | none => exact .inl rfl
  | some q => exact .inr (fun e => by have := (h1.lt q hr).1; have := Option.some.inj e; omega)
theorem grown_set (w : World) (b i : Nat) (u : Value) : w.grownBy (w.setCell ⟨b, i, none⟩ u) (some b) :=
  ⟨rfl, rfl, rfl, by simp, fun k _ hk => heap_setCell_other w ⟨b, i, none⟩ k u (fun e => hk (by rw [e]))⟩
theorem mid_put' {w w2 w4 : World} {g bb cap n N : Nat} {M : List Rq} {r : Value} (h1 : w2.ownsRow w.heap.size 45 6 r M.length (flatE enc6 M)) (h3 : Far bb (some g) w w2) (h4 : Blk w2 bb #[.int .u64 (N : Int), .slice (some ⟨g, 0, none⟩) n cap] 74)
    (hgb : g ≠ bb) (hg : g < w.heap.size) (hbl : bb < w.heap.size) (hG : w2.grownBy w4 (some g)) :
    w4.ownsRow w.heap.size 45 6 r M.length (flatE enc6 M) ∧ Far bb (some g) w w4 ∧ Blk w4 bb #[.int .u64 (N : Int), .slice (some ⟨g, 0, none⟩) n cap] 74 :=
  ⟨h1.kept hG (row_ne h1 hg), h3.grown hG (.inl rfl), (hG.block bb h4.lt (fun e => hgb (Option.some.inj e).symm)).trans h4⟩
theorem mid_put {w w2 w4 : World} {g bb cap n N : Nat} {M : List Rq} {r : Value} (h1 : w2.ownsRow w.heap.size 45 6 r M.length (flatE enc6 M)) (h3 : Far bb (some g) w w2) (h4 : Blk w2 bb #[.int .u64 (N : Int), .slice (some ⟨g, 0, none⟩) n cap] 74)
    (hgb : g ≠ bb) (hg : g < w.heap.size) (hbl : bb < w.heap.size) {o : Obj} (hG : (w2.alloc o).grownBy w4 (some g)) :
    w4.ownsRow w.heap.size 45 6 r M.length (flatE enc6 M) ∧ Far bb (some g) w w4 ∧ Blk w4 bb #[.int .u64 (N : Int), .slice (some ⟨g, 0, none⟩) n cap] 74 :=
  mid_put' (h1.alloc o) (h3.alloc o) (h4.alloc o) hgb hg hbl hG

set_option maxRecDepth 100000 in
set_option maxHeartbeats 4000000 in
theorem takeOut_some (gf : FuncId) (caps : Array Value) (p : Rq → Bool) (bb base N g cap : Nat) (L : List Rq) (w : World) (hB : Bk w bb base (.slice (some ⟨g, 0, none⟩) L.length cap) N L) (hn : L.length ≤ 100000)
    (eg : ∀ args w, (callFunc gf args).run Tryd.prog w = .ok (.enter gf args) w)
    (hcan : ∀ x ∈ L, ∀ W, Far bb (some g) w W → Calls Tryd.prog gf (#[.agg (arr7 x)] ++ caps) W fun e w' => e = .returned (.bool (p x)) ∧ Below W.heap.size W w') :
    Calls Tryd.prog 31 #[.pointer (some ⟨bb, 0, none⟩), .func (.func gf) #[] caps] w (TakeOut p w bb base (.slice (some ⟨g, 0, none⟩) L.length cap) N L) := by
  obtain ⟨i6, hi6, hz6, hs6, hy6⟩ := info_of info6
  obtain ⟨i7, hi7, hz7, hs7, hy7⟩ := info_of info7
  have c1 := hB.blk.get 1
  simp only [List.getElem?_toArray, List.getElem?_cons_zero, List.getElem?_cons_succ] at c1
  obtain ⟨R0, hg, -⟩ := own_rowAt hB.row
  have hgb : g ≠ bb := fun e => hB.apart (by rw [e]; rfl)
  have hlt : g < w.heap.size := R0.lt
  have hbl : bb < w.heap.size := hB.blk.lt
  have rm := R0.room
  obtain ⟨n, hLn⟩ : ∃ n, Hid (L.length = n) := ⟨_, rfl⟩
  rw [hLn.out] at c1 hn rm ⊢
  have HC : Aside (∀ x ∈ L, ∀ W, Far bb (some g) w W → Calls Tryd.prog gf (#[.agg (arr7 x)] ++ caps) W fun e w' => e = .returned (.bool (p x)) ∧ Below W.heap.size W w') := hcan
  have HB : Aside (Bk w bb base (.slice (some ⟨g, 0, none⟩) n cap) N L) := by show Bk _ _ _ _ _ _; rw [← hLn.out]; exact hB
  have HR : Aside (RowAt w g cap L) := R0
  have HG : Aside (g ≠ bb ∧ g < w.heap.size ∧ bb < w.heap.size ∧ base ≤ g) := ⟨hgb, hlt, hbl, hg⟩
  obtain ⟨q1, q2⟩ := rm
  unfold maxLen at q2
  have y9 : (0 : Int) ≤ (cap : Int) := by omega
  clear hcan hB R0 hg hgb hlt hbl
  go_enter Tryd.func31, Tryd.ntmps31
  go_wp2_with fail
  go_loopg [5, 6, 19] n (fun gk t5 t6 t19 wr => ∃ (k j : Nat) (D : List Rq) (r : Value), r = t5 ∧ t6 = .slice (some ⟨g, 0, none⟩) j cap ∧ t19 = .int .i64 k ∧ gk + k = n ∧ j = ((L.take k).filter (fun x => !p x)).length ∧ Aside (wr.ownsRow w.heap.size 45 6 r ((L.take k).filter p).length (flatE enc6 ((L.take k).filter p)) ∧ RowAt wr g cap D ∧ Mid p L k D ∧ Far bb (some g) w wr ∧ Blk wr bb #[.int .u64 (N : Int), .slice (some ⟨g, 0, none⟩) n cap] 74))
  case atStart => exact ⟨0, 0, L, _, rfl, rfl, rfl, rfl, by simp, World.ownsRow_nil _ _ _ _, HR.out, Mid.start p L, Far.refl _ _ _, HB.out.blk⟩
  case round =>
    obtain ⟨k, j, D, r, rfl, rfl, rfl, hg, hj0, hA⟩ := hrel
    have hj := Lib.hid hj0
    clear hj0
    have y0 : (0 : Int) ≤ (k : Int) := by omega
    by_cases hlt : k < n
    · have hkL : k < L.length := by rw [hLn.out]; exact hlt
      have y1 : (k : Int) < (n : Int) := by omega
      have hkD : k < D.length := by rw [hA.out.2.2.1.len]; exact hkL
      have hx := hA.out.2.2.1.at hkL
      have e0 := hA.out.2.1.cell hkD (i := 0) (by omega)
      have e1 := hA.out.2.1.cell hkD (i := 1) (by omega)
      have e2 := hA.out.2.1.cell hkD (i := 2) (by omega)
      have e3 := hA.out.2.1.cell hkD (i := 3) (by omega)
      have e4 := hA.out.2.1.cell hkD (i := 4) (by omega)
      have e5 := hA.out.2.1.cell hkD (i := 5) (by omega)
      have e6 := hA.out.2.1.cell hkD (i := 6) (by omega)
      rw [hx] at e0 e1 e2 e3 e4 e5 e6
      have C := HC.out (at_ L k) (by rw [at_get hkL]; exact List.getElem_mem hkL)
      obtain ⟨x, hxx⟩ : ∃ x, Hid (at_ L k = x) := ⟨_, rfl⟩
      rw [hxx.out] at e0 e1 e2 e3 e4 e5 e6 C
      simp only [enc7, List.getElem?_cons_zero, List.getElem?_cons_succ, Nat.add_zero] at e0 e1 e2 e3 e4 e5 e6
      clear hkD hx
      obtain ⟨q, hq⟩ : ∃ q, Hid (p x = q) := ⟨_, rfl⟩
      rw [hq.out] at C
      have AB : Aside (Far bb (some g) w (wr.alloc (.cells (arr7 x) 77)) ∧ Blk (wr.alloc (.cells (arr7 x) 77)) wr.heap.size (arr7 x) 77 ∧ w.heap.size ≤ wr.heap.size ∧ wr.heap.size < (wr.alloc (.cells (arr7 x) 77)).heap.size) := ⟨hA.out.2.2.2.1.alloc _, blk_new _ _ _, hA.out.2.2.2.1.size, by simp⟩
      have CW := C _ AB.out.1
      clear C
      cases q with
      | true =>
        have NX : Aside (flatE enc6 ((L.take (k + 1)).filter p) = flatE enc6 ((L.take k).filter p) ++ enc6 x ∧ ((L.take (k + 1)).filter p).length = ((L.take k).filter p).length + 1 ∧ ((L.take k).filter p).length ≤ k ∧ Mid p L (k + 1) D ∧ (L.take (k + 1)).filter (fun x => !p x) = (L.take k).filter (fun x => !p x)) := by
          have h1 : p (at_ L k) = true := by rw [hxx.out]; exact hq.out
          have h2 := flat6_next p L k hkL h1
          rw [hxx.out] at h2
          exact ⟨h2.1, h2.2, filt_le p L k, hA.out.2.2.1.out hkL h1, filt_no (fun x => !p x) L k hkL (by rw [h1]; rfl)⟩
        clear hq hxx
        go_wp2_with fail
        go_at_fn gf
        refine CW.mono ?_; rintro e w2 ⟨rfl, hb⟩
        have X2 := AB.out.2.1.below hb AB.out.2.2.2
        have c0 := X2.get 0
        have c1 := X2.get 1
        have c2 := X2.get 2
        have c3 := X2.get 3
        have c4 := X2.get 4
        have c5 := X2.get 5
        have KB : Aside (w2.ownsRow w.heap.size 45 6 r ((L.take k).filter p).length (flatE enc6 ((L.take k).filter p)) ∧ RowAt w2 g cap D ∧ Far bb (some g) w w2 ∧ Blk w2 bb #[.int .u64 (N : Int), .slice (some ⟨g, 0, none⟩) n cap] 74) := mid_below hA.out.1 hA.out.2.1 hA.out.2.2.2.1 hA.out.2.2.2.2 hb
        simp only [List.getElem?_toArray, List.getElem?_cons_zero, List.getElem?_cons_succ] at c0 c1 c2 c3 c4 c5
        clear hb X2
        go_wp2_with (at_builtin; refine push6 hi6 hz6 hs6 hy6 KB.out.1 x (by have := NX.out.2.2.1; omega) KB.out.2.2.1.size rfl _ _ rfl rfl _ rfl rfl ?_)
        intro v' w4 hO hG
        have KC : Aside (w4.ownsRow w.heap.size 45 6 v' ((L.take (k + 1)).filter p).length (flatE enc6 ((L.take (k + 1)).filter p)) ∧ RowAt w4 g cap D ∧ Mid p L (k + 1) D ∧ Far bb (some g) w w4 ∧ Blk w4 bb #[.int .u64 (N : Int), .slice (some ⟨g, 0, none⟩) n cap] 74) := by
          obtain ⟨m1, m2, m3⟩ := mid_grown KB.out.1 KB.out.2.1 KB.out.2.2.1 KB.out.2.2.2 HG.out.2.1 HG.out.2.2.1 hG
          refine ⟨?_, m1, NX.out.2.2.2.1, m2, m3⟩
          rw [NX.out.1, NX.out.2.1]
          rw [flatE_append, flatE_one] at hO
          exact hO
        clear hO hG KB c0 c1 c2 c3 c4 c5
        go_wp2_with fail
        go_roundg (gk - 1)
        case measure => omega
        case rel => exact ⟨k + 1, j, D, v', rfl, rfl, by go_num, by omega, by rw [NX.out.2.2.2.2]; exact hj.out, KC.out⟩
      | false =>
        have NX : Aside ((L.take (k + 1)).filter p = (L.take k).filter p ∧ j < D.length ∧ Mid p L (k + 1) (D.set j x) ∧ ((L.take (k + 1)).filter (fun x => !p x)).length = j + 1) := by
          have h1 : p (at_ L k) = false := by rw [hxx.out]; exact hq.out
          have h2 := hA.out.2.2.1.stay hkL h1
          rw [hxx.out, ← hj.out] at h2
          have h3 := filt_next (fun x => !p x) L k hkL
          rw [if_pos (by rw [h1]; rfl)] at h3
          refine ⟨filt_no p L k hkL h1, ?_, h2, by rw [h3, List.length_append, ← hj.out]; rfl⟩
          have h4 := filt_le (fun x => !p x) L k
          have h5 := hA.out.2.2.1.len
          have h6 := hj.out
          omega
        have hjc : Hid (j < cap) := by
          have := NX.out.2.1
          have h5 := hA.out.2.1.room.1
          show _ < _
          omega
        clear hq hxx
        go_wp2_with fail
        go_at_fn gf
        refine CW.mono ?_; rintro e w2 ⟨rfl, hb⟩
        have X2 := AB.out.2.1.below hb AB.out.2.2.2
        have c0 := X2.get 0
        have c1 := X2.get 1
        have c2 := X2.get 2
        have c3 := X2.get 3
        have c4 := X2.get 4
        have c5 := X2.get 5
        have c6 := X2.get 6
        have KB : Aside (w2.ownsRow w.heap.size 45 6 r ((L.take k).filter p).length (flatE enc6 ((L.take k).filter p)) ∧ RowAt w2 g cap D ∧ Far bb (some g) w w2 ∧ Blk w2 bb #[.int .u64 (N : Int), .slice (some ⟨g, 0, none⟩) n cap] 74) := mid_below hA.out.1 hA.out.2.1 hA.out.2.2.2.1 hA.out.2.2.2.2 hb
        simp only [List.getElem?_toArray, List.getElem?_cons_zero, List.getElem?_cons_succ] at c0 c1 c2 c3 c4 c5 c6
        clear hb X2
        go_wp2_with (at_builtin; refine put7 hi7 hs7 KB.out.2.1 NX.out.2.1 x rfl _ _ rfl rfl _ rfl rfl ?_)
        intro w4 hO hG
        have KC : Aside (w4.ownsRow w.heap.size 45 6 r ((L.take (k + 1)).filter p).length (flatE enc6 ((L.take (k + 1)).filter p)) ∧ RowAt w4 g cap (D.set j x) ∧ Mid p L (k + 1) (D.set j x) ∧ Far bb (some g) w w4 ∧ Blk w4 bb #[.int .u64 (N : Int), .slice (some ⟨g, 0, none⟩) n cap] 74) := by
          obtain ⟨m1, m2, m3⟩ := mid_put KB.out.1 KB.out.2.2.1 KB.out.2.2.2 HG.out.1 HG.out.2.1 HG.out.2.2.1 hG
          rw [NX.out.1]
          exact ⟨m1, hO, NX.out.2.2.1, m2, m3⟩
        clear hO hG KB c0 c1 c2 c3 c4 c5 c6
        go_wp2_with fail
        go_roundg (gk - 1)
        case measure => omega
        case rel => exact ⟨k + 1, j + 1, D.set j x, r, rfl, rfl, by go_num, by omega, NX.out.2.2.2.symm, KC.out⟩
    · obtain rfl : k = n := by omega
      have y1 : ¬ (k : Int) < (k : Int) := by omega
      have hjk : j ≤ k := by rw [hj.out]; exact filt_le _ _ _
      have d1 := hA.out.2.2.2.2.get 1
      have f1 := hA.out.2.2.2.2.frz 1
      simp only [List.getElem?_toArray, List.getElem?_cons_zero, List.getElem?_cons_succ] at d1
      have hL1 : L.take k = L := List.take_of_length_le (by have := hLn.out; omega)
      have OUT : Aside (∀ w2 D2, RowAt w2 g cap D2 → D2.take j = L.filter (fun x => !p x) → wr.grownBy w2 (some g) → TakeOut p w bb base (.slice (some ⟨g, 0, none⟩) k cap) N L (.returned r) (w2.setCell ⟨bb, 1, none⟩ (.slice (some ⟨g, 0, none⟩) j cap))) := fun w2 D2 h1 h2 h3 => by
        obtain ⟨m1, m2, m3⟩ := mid_put' hA.out.1 hA.out.2.2.2.1 hA.out.2.2.2.2 HG.out.1 HG.out.2.1 HG.out.2.2.1 h3
        rw [hL1] at m1
        have hlen : (L.filter (fun x => !p x)).length = j := by rw [hj.out, hL1]
        have hjD : j ≤ D2.length := by
          have := congrArg List.length h2
          rw [List.length_take, hlen] at this
          omega
        have ro := h1.own (B := base) HG.out.2.2.2 hjD
        rw [h2] at ro
        refine ⟨⟨r, rfl, ?_⟩, ⟨.slice (some ⟨g, 0, none⟩) j cap, ⟨m3.set 1 _, HB.out.above, ?_, HB.out.apart⟩, rfl⟩, m2.set _ _⟩
        · exact m1.kept (row := some bb) (grown_set _ _ _ _) (row_ne m1 HG.out.2.2.1)
        · rw [hlen]
          exact ro.kept (row := some bb) (grown_set _ _ _ _) (.inr (by show some g ≠ some bb; intro e; exact HG.out.1 (Option.some.inj e)))
      have z0 : (0 : Int) ≤ (j : Int) := by omega
      have z1 : (j : Int) ≤ (k : Int) := by omega
      have z2 : (j : Int) ≤ (cap : Int) := by omega
      by_cases hjn : j = k
      · have hD : Aside (RowAt wr g cap D ∧ D.take j = L.filter (fun x => !p x)) := ⟨hA.out.2.1, by have := hA.out.2.2.1.done (by rw [hLn.out]; exact Nat.le_refl _); rw [hj.out, hL1]; exact this⟩
        have K := Lib.hid (OUT.out wr D hD.out.1 hD.out.2 ⟨rfl, rfl, rfl, Nat.le_refl _, fun _ _ _ => rfl⟩)
        have hcl := fun a c ty => wipe_zero a c wr ty
        clear OUT hD hA HR HB HC
        subst hjn
        have z3 : j - j = 0 := by omega
        by_cases hcj : cap = j
        · subst hcj
          go_wp2_with fail
          go_ret
          exact K.out
        · have z4 : (j : Int) < (cap : Int) := by omega
          go_wp2_with fail
          go_ret
          exact K.out
      · have hD := hA.out.2.2.1
        obtain ⟨w2, hcl, h1, h2⟩ := run_wipe hA.out.2.1 (j := j) (m := k - j) (by omega) (by rw [hD.len, hLn.out]; omega) (cap - j)
        have K := Lib.hid (OUT.out w2 (D.take j) h1 (by rw [List.take_take, Nat.min_self]; have := hD.done (by rw [hLn.out]; exact Nat.le_refl _); rw [hj.out, hL1]; exact this) h2)
        have hc2 : w2.cell? ⟨bb, 1, none⟩ = some (.slice (some ⟨g, 0, none⟩) k cap) := by
          rw [World.cell?_of_block (a := ⟨bb, 1, none⟩) (h2.block bb (lt_of_cell d1) (fun e => HG.out.1 (Option.some.inj e).symm))]; exact d1
        have hf2 : w2.frozen? ⟨bb, 1, none⟩ = false := by
          rw [World.frozen?_of_block (a := ⟨bb, 1, none⟩) (h2.block bb (lt_of_cell d1) (fun e => HG.out.1 (Option.some.inj e).symm))]; exact f1
        have z3 : (j : Int) < (cap : Int) := by omega
        have z4 : ¬ cap = j := by omega
        clear OUT hA HR HB HC hD h1 h2 hL1
        go_wp2_with fail
        go_ret
        exact K.out
end Go.Proofs.YtelofhplpeeplaaDoor.wire
