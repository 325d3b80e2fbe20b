/- The walk of the law on walks: it returns true, and what was there stays. -/
import Derived.Test.YtegbaocpacbljaaArSpeaks
import Derived.Test.YtegbaocpacbljaaArGrowI
import Derived.Test.YtegbaocpacbljaaArWalkI
import Derived.Test.YtegbaocpacbljaaArDeepI
import Derived.Test.YtegbaocpacbljaaArLawMath
import Derived.Test.YtegbaocpacbljaaArFrame
import Derived.Deep.OwnRows
import Derived.Deep.DeepCutAuto
import Derived.Deep.RegionWith
import Derived.IntWalk
set_option linter.unusedSimpArgs false
set_option linter.unusedVariables false
namespace Go.Proofs.Ytegbaocpacbljaa.arenaWalks
open Go.RowKit Go.Proofs.Ytegbaocpacbljaa.arena Go.Proofs.Ytegbaocpacbljaa.arenaI

/-- The tree that the law has made when k numbers have been added beneath. -/
def Own (w0 : World) (zs : List Int) (k : Nat) (w' : World) : Prop :=
  ∃ nv V K, Tr w' w0.heap.size w0.heap.size 500 nv (k + 1) V (Uof zs) K (kidsOf (k + 1) (Uof zs)) ∧ Below w0.heap.size w0 w'
theorem own_root {w0 w' : World} (zs : List Int) (h : ∃ nv V K, Tr w' w0.heap.size w0.heap.size 500 nv 0 V (fun _ => 0) K (kidsOf 0 (fun _ => 0)) ∧ Below w0.heap.size w0 w') :
    Calls Try.prog 6 #[.pointer (some ⟨w0.heap.size, 0, none⟩), .int .i64 (-1), .int .i64 0] w' fun e w2 => e = .returned (.tuple #[.int .i64 0, .nilIface]) ∧ Own w0 zs 0 w2 := by
  obtain ⟨nv, V, K, t, b⟩ := h
  refine (grow_root 0 t b.size (by decide)).mono fun _ _ ⟨nv', K', e, t', m, _⟩ => ⟨e, nv', upd V 0 0, K', t'.congr fun i hi => ?_, b.trans (t.goes b.size m)⟩
  obtain rfl : i = 0 := by omega
  exact ⟨rfl, rfl, rfl, rfl⟩
theorem own_kid {w0 w' : World} {zs : List Int} {k : Nat} (h : Own w0 zs k w') (hz : ∀ j, 0 ≤ zs.getD j 0) (hk : k < 400) (x : Int) :
    Calls Try.prog 6 #[.pointer (some ⟨w0.heap.size, 0, none⟩), .int .i64 (zs.getD k 0 % ((k : Int) + 1)), .int .i64 x] w' fun e w2 => e = .returned (.tuple #[.int .i64 ((k : Int) + 1), .nilIface]) ∧ Own w0 zs (k + 1) w2 := by
  obtain ⟨nv, V, K, t, b⟩ := h
  obtain ⟨u, hu, hlt⟩ := uof_step zs k (hz k)
  have e : ∀ i, i < k + 1 + 1 → upd (Uof zs) (k + 1) (u : Int) i = Uof zs i := fun i hi => by
    by_cases e : i = k + 1
    · subst e; rw [upd_same]; exact hu.symm
    · rw [upd_other _ _ e]
  have G := grow_kid x u t (uof_ok zs (k + 1) hz) b.size hlt (by omega) (by omega)
  rw [hu]
  refine G.mono fun _ _ ⟨nv', K', e1, t', m, _⟩ => ⟨by rw [e1]; rfl, nv', upd V (k + 1) x, K', t'.congr fun i hi => ⟨rfl, e i hi, rfl, kidsOf_congr e i⟩, b.trans (t.goes b.size m)⟩
theorem Own.below {w0 w1 w2 : World} {zs : List Int} {k : Nat} (h : Own w0 zs k w1) (hb : Below w1.heap.size w1 w2) : Own w0 zs k w2 := by
  obtain ⟨nv, V, K, t, b⟩ := h
  exact ⟨nv, V, K, t.below hb, b.trans (hb.mono b.size)⟩
theorem Own.frame {w0 w1 : World} {zs : List Int} {k : Nat} (h : Own w0 zs k w1) : Below w0.heap.size w0 w1 := by
  obtain ⟨nv, V, K, t, b⟩ := h
  exact b
/-- A store into a block that is none of the tree's. -/
theorem Own.set {w0 w1 : World} {zs : List Int} {k g o : Nat} {W : World} (h : Own w0 zs k W) (hb : Below W.heap.size W w1) (hg : W.heap.size ≤ g) (v : Value) : Own w0 zs k (w1.setCell ⟨g, o, none⟩ v) :=
  h.below (hb.setCell (p := ⟨g, o, none⟩) hg v)

def list (zs : List Int) (n : Nat) : List Nat := walk n (kidsOf n (Uof zs)) 0
theorem own_walk {w0 w' : World} {zs : List Int} {k : Nat} (h : Own w0 zs k w') (hz : ∀ j, 0 ≤ zs.getD j 0) (hk : k < 400) :
    Calls Try.prog 7 #[.pointer (some ⟨w0.heap.size, 0, none⟩), .int .i64 0] w' fun e w2 => ∃ a c, e = .returned (.slice a (k + 1) c) ∧ Aside (Rd w2 (.slice a (k + 1) c) (list zs (k + 1)) ∧ Below w'.heap.size w' w2 ∧ ∀ b, (Value.slice a (k + 1) c).ownBlock = some b → w'.heap.size ≤ b ∧ b < w2.heap.size) := by
  obtain ⟨nv, V, K, t, b⟩ := h
  have hU := uof_ok zs (k + 1) hz
  have hl := walk_root_length hU (by omega)
  refine (walk_yes t hU 0 (by omega) (by omega)).mono fun _ _ ⟨a, c, e, ho, hb⟩ => ⟨a, c, by rw [e, hl], by have := Rd.of_own ho; rwa [hl] at this, hb, fun b hb' => by rw [← hl] at hb'; exact ho.lt b hb'⟩
theorem own_deep {w0 w' : World} {zs : List Int} {k : Nat} (h : Own w0 zs k w') (hz : ∀ j, 0 ≤ zs.getD j 0) (hk : k < 400) (x : Nat) (hx : x < k + 1) :
    Calls Try.prog 8 #[.pointer (some ⟨w0.heap.size, 0, none⟩), .int .i64 (x : Int)] w' fun e w2 => e = .returned (.int .i64 (depth (Uof zs) x : Int)) ∧ w' = w2 := by
  obtain ⟨nv, V, K, t, b⟩ := h
  exact deep_yes t (uof_ok zs (k + 1) hz) x hx (by omega)
theorem deep_q {w0 w' : World} {zs : List Int} {k : Nat} (h : Own w0 zs k w') (hz : ∀ j, 0 ≤ zs.getD j 0) (hk : k < 400) (x : Nat) (hx : x < k + 1) (n : Nat) :
    Calls Try.prog 8 #[.pointer (some ⟨w0.heap.size, 0, none⟩), .int .i64 (x : Int)] (w'.drewN n) fun e w2 => e = .returned (.int .i64 (depth (Uof zs) x : Int)) ∧ ∃ m, w2 = w'.drewN m :=
  (own_deep (h.below (show Below w'.heap.size w' (w'.drewN n) from ⟨rfl, rfl, rfl, Nat.le_refl _, fun _ _ => rfl⟩)) hz hk x hx).mono fun _ _ ⟨e, h⟩ => ⟨e, n, h.symm⟩

/-- What the law holds when it has its list and its places. -/
def Two (wr : World) (l : List Nat) (f : Nat → Value) (n : Nat) (s8 s9 : Value) (wx : World) : Prop :=
  ∃ a c g, s8 = .slice a n c ∧ s9 = .slice (some ⟨g, 0, none⟩) n n ∧ Aside (wr.heap.size ≤ g ∧ wx.rowIs g 3 n f ∧ Rd wx (.slice a n c) l ∧ (Value.slice a n c).ownBlock ≠ some g ∧ Below wr.heap.size wr wx)
theorem Two.parts {wr wx : World} {l : List Nat} {f : Nat → Value} {n c g : Nat} {a : Option Addr} (h : Two wr l f n (.slice a n c) (.slice (some ⟨g, 0, none⟩) n n) wx) :
    wr.heap.size ≤ g ∧ wx.rowIs g 3 n f ∧ Rd wx (.slice a n c) l ∧ (Value.slice a n c).ownBlock ≠ some g ∧ Below wr.heap.size wr wx := by
  obtain ⟨a', c', g', e1, e2, h⟩ := h
  simp only [Value.slice.injEq, true_and] at e1
  simp only [Value.slice.injEq, Option.some.injEq, Addr.mk.injEq, and_true] at e2
  obtain ⟨rfl, rfl⟩ := e1
  obtain rfl := e2
  exact h
theorem two_set {wr wx : World} {l : List Nat} {m n c g : Nat} {a : Option Addr} (hn : l.Nodup) (hm : m < l.length) (h : Two wr l (fun x => .int .i64 (pl l m x)) n (.slice a n c) (.slice (some ⟨g, 0, none⟩) n n) wx) :
    Two wr l (fun x => .int .i64 (pl l (m + 1) x)) n (.slice a n c) (.slice (some ⟨g, 0, none⟩) n n) (wx.setCell ⟨g, l.getD m 0, none⟩ (.int .i64 ((m : Int) + 1))) := by
  obtain ⟨h1, h2, h3, h4, h5⟩ := h.parts
  refine ⟨a, c, g, rfl, rfl, h1, ?_, h3.mv (Mv.of_set wx ⟨g, l.getD m 0, none⟩ _ (F := fun k => k = g) (.inl rfl)) (fun b hb e => h4 (by rw [hb, e])), h4, h5.setCell (p := ⟨g, l.getD m 0, none⟩) h1 _⟩
  refine (h2.set _ _).congr fun i _ => ?_
  rw [← pl_step hn hm i]
  have e : l.getD m 0 = l[m] := by simp [List.getD_eq_getElem?_getD, hm]
  rw [e]
  by_cases hi : i = l[m]
  · rw [if_pos hi, if_pos hi]
  · rw [if_neg hi, if_neg hi]
theorem two_a {wr w5 : World} {l : List Nat} {n c : Nat} {a : Option Addr} (h : Rd w5 (.slice a n c) l ∧ Below wr.drew.heap.size wr.drew w5 ∧ ∀ b, (Value.slice a n c).ownBlock = some b → wr.drew.heap.size ≤ b ∧ b < w5.heap.size) :
    Two wr l (fun _ => .int .i64 0) n (.slice a n c) (.slice (some ⟨w5.heap.size, 0, none⟩) n n) (w5.alloc (.cells (madeCells #[.int .i64 0] n) 3)) := by
  obtain ⟨h1, h2, h3⟩ := h
  have hb : Below wr.heap.size wr w5 := ⟨h2.os, h2.tape, h2.output, h2.size, h2.block⟩
  exact ⟨a, c, _, rfl, rfl, hb.size, World.rowIs_made _ _ _ _, h1.below ((Below.refl _ w5).alloc (Nat.le_refl _) _), fun e => by have := (h3 _ e).2; omega, hb.alloc hb.size _⟩
theorem two_b {wr w5 : World} {l : List Nat} {n c : Nat} {a : Option Addr} (h : Rd w5 (.slice a n c) l ∧ Below (wr.alloc (.cells (madeCells #[.int .i64 0] n) 3)).drew.heap.size (wr.alloc (.cells (madeCells #[.int .i64 0] n) 3)).drew w5 ∧ ∀ b, (Value.slice a n c).ownBlock = some b → (wr.alloc (.cells (madeCells #[.int .i64 0] n) 3)).drew.heap.size ≤ b ∧ b < w5.heap.size) :
    Two wr l (fun _ => .int .i64 0) n (.slice a n c) (.slice (some ⟨wr.heap.size, 0, none⟩) n n) w5 := by
  obtain ⟨h1, h2, h3⟩ := h
  have hb : Below (wr.alloc (.cells (madeCells #[.int .i64 0] n) 3)).heap.size (wr.alloc (.cells (madeCells #[.int .i64 0] n) 3)) w5 := ⟨h2.os, h2.tape, h2.output, h2.size, h2.block⟩
  refine ⟨a, c, _, rfl, rfl, Nat.le_refl _, (World.rowIs_made wr (.int .i64 0) n 3).of_block (hb.block _ (by simp)), h1, fun e => ?_, ((Below.refl _ wr).alloc (Nat.le_refl _) _).trans (hb.mono (by simp))⟩
  have h4 := (h3 _ e).1
  have h5 : (wr.alloc (.cells (madeCells #[.int .i64 0] n) 3)).drew.heap.size = wr.heap.size + 1 := World.size_alloc ..
  omega

set_option maxRecDepth 100000 in
set_option maxHeartbeats 8000000 in
theorem law (a0 : Option Addr) (len cap : Nat) (zs0 : List Int) (w : World) (hr : frame.IsRow .u8 w a0 len cap zs0) (_ : True) :
    Calls Try.prog 3 #[.slice a0 len cap] w fun e w' => e = .returned (.bool true) ∧ Below w.heap.size w w' := by
  have S := arenaS.speaks_any w
  obtain ⟨r1, r2, r3, r4⟩ := frame.row_open hr
  obtain ⟨zs, hzs⟩ : ∃ zs, zs = zs0.take len := ⟨_, rfl⟩
  rw [← hzs] at r3 r4
  clear hr hzs zs0
  have HZ := Lib.hid r3
  have HR := Lib.hid r4
  clear r3 r4
  by_cases hbig : 200 < len
  · have x1 : (200 : Int) < (len : Int) := by omega
    clear hbig
    go_enter Try.func3, Try.ntmps3
    go_wp2_with fail
    refine S.mono ?_; rintro e w1 ⟨rfl, hb1⟩
    go_wp2_with fail
    go_ret
    exact ⟨rfl, hb1⟩
  have x1 : (len : Int) ≤ 200 := by omega
  clear hbig
  go_enter Try.func3, Try.ntmps3
  go_wp2_with fail
  refine S.mono ?_; rintro e w1 ⟨rfl, hb1⟩
  go_wp2_with fail
  have t0 := tr_new w1 500 (fun _ => 0) (fun _ => 0) (fun _ => .slice none 0 0) (kidsOf 0 (fun _ => 0))
  have h0 : ∃ nv V K, Tr (w1.alloc (.cells #[.int .i64 500, .slice none 0 0] 40)) w1.heap.size w1.heap.size 500 nv 0 V (fun _ => 0) K (kidsOf 0 (fun _ => 0)) ∧ Below w1.heap.size w1 (w1.alloc (.cells #[.int .i64 500, .slice none 0 0] 40)) := ⟨_, _, _, t0, (Below.refl _ w1).alloc (Nat.le_refl _) _⟩
  have R := own_root zs h0
  clear t0 h0
  refine (new_any 500 w1).mono ?_; rintro e w2 ⟨rfl, rfl⟩
  go_wp2_with fail
  refine R.mono ?_; rintro e w3 ⟨rfl, h3⟩
  have HB1 : Aside (Below w.heap.size w w1) := hb1
  clear hb1 R S
  go_wp2_with fail
  have O : Aside (Own w1 zs 0 w3) := h3
  clear h3
  go_loopg [27] len (fun g t wr => ∃ k : Nat, t = .int .i64 k ∧ k ≤ len ∧ Hid (k + g = len) ∧ Aside (Own w1 zs k wr))
  case atStart => exact ⟨0, rfl, Nat.zero_le _, Nat.zero_add _, O⟩
  case round =>
    clear O
    obtain ⟨k, rfl, hk, hg, hO⟩ := hrel
    by_cases hlt : k < len
    · obtain ⟨g, hg2⟩ : ∃ g, Hid (gk = g + 1) := ⟨gk - 1, by have := hg.out; show gk = _; omega⟩
      obtain ⟨b, off, rfl, hB⟩ := HR.out (by omega)
      have hz0 := HZ.out k
      have y1 : (k : Int) < (len : Int) := by omega
      have y0 : (0 : Int) ≤ (k : Int) := by omega
      obtain ⟨hcw, hz1⟩ := hB k hlt
      have c1 : wr.cell? ⟨b, off + k, none⟩ = some (.int .u8 (zs.getD k 0)) := by
        have e1 := (HB1.out.cell (p := ⟨b, off + k, none⟩) (ltc hcw)).trans hcw
        exact (hO.out.frame.cell (p := ⟨b, off + k, none⟩) (ltc e1)).trans e1
      have A := own_kid hO.out HZ.out (by omega) (k : Int)
      clear hB hcw
      generalize zs.getD k 0 = z at *
      go_wp2_with fail
      refine A.mono ?_; rintro e w4 ⟨rfl, h4⟩
      go_wp2_with fail
      go_roundg g
      case measure => have := hg2.out; omega
      case rel => exact ⟨k + 1, by go_num, by omega, by have := hg.out; have := hg2.out; show _ = _; omega, h4⟩
    · obtain rfl : k = len := by omega
      clear hlt hk hg
      obtain ⟨wA, rfl⟩ : ∃ wA, wA = wr := ⟨_, rfl⟩
      go_wp2_with fail
      have hwr : IntKind.i64.wrap ((k : Int) + 1) = (k : Int) + 1 := IntWalk.i64_in _ (by omega)
      have hmk : ∀ W : World, (Instr.makeSlice 30 (.int .i64 ((k : Int) + 1)) (.int .i64 ((k : Int) + 1))).run Try.prog W = .ok (.slice (some ⟨W.heap.size, 0, none⟩) (k + 1) (k + 1)) (W.alloc (.cells (madeCells #[.int .i64 0] (k + 1)) 3)) :=
        fun W => run_make_row' 30 3 (.int .i64 0) 8 Try.underlying30 arena.infoInt rfl .i64 .i64 (k + 1) (by omega) (by omega) W
      go_cut [8, 9] (fun s8 s9 wx => Two wA (list zs (k + 1)) (fun _ => .int .i64 0) (k + 1) s8 s9 wx)
      case first =>
        have H1 : Aside (Own w1 zs k wA.drew) := hO.out.below (Below.refl _ wA).drew
        have H2 : Aside (Own w1 zs k (wA.alloc (.cells (madeCells #[.int .i64 0] (k + 1)) 3)).drew) := hO.out.below ((Below.refl _ wA).alloc (Nat.le_refl _) _).drew
        have CT : ∀ w', Own w1 zs k w' → Calls Try.prog 7 #[.pointer (some ⟨w1.heap.size, 0, none⟩), .int .i64 0] w' fun e w2 => ∃ a c, e = .returned (.slice a (k + 1) c) ∧ Aside (Rd w2 (.slice a (k + 1) c) (list zs (k + 1)) ∧ Below w'.heap.size w' w2 ∧ ∀ b, (Value.slice a (k + 1) c).ownBlock = some b → w'.heap.size ≤ b ∧ b < w2.heap.size) := fun w' h => own_walk h HZ.out (by omega)
        go_region_with (go_at_call 7; refine (CT _ (by first | exact H1.out | exact H2.out)).mono ?_; rintro e w5 ⟨a, c, rfl, h5⟩)
        all_goals (go_wp2_with fail; go_meet; first | exact two_a h5.out | exact two_b h5.out)
      case rest =>
        obtain ⟨a, c, g, rfl, rfl, h5⟩ := hcut
        have hU := uof_ok zs (k + 1) HZ.out
        have HL : Aside ((list zs (k + 1)).length = k + 1 ∧ (∀ x, x ∈ list zs (k + 1) ↔ x < k + 1) ∧ (list zs (k + 1)).Nodup) := ⟨walk_root_length hU (by omega), root_mem hU (by omega), root_nodup hU (by omega)⟩
        have HF : Aside (∀ j u : Nat, 0 < j → j < k + 1 → Uof zs j = (u : Int) → (list zs (k + 1)).idxOf u < (list zs (k + 1)).idxOf j) := fun j u h1 h2 h3 => root_first hU h1 h2 h3
        clear hU hwr hmk
        generalize list zs (k + 1) = l at *
        go_wp2_with fail
        go_loopg [66] (k + 1) (fun q t wx' => ∃ m : Nat, t = .int .i64 m ∧ m ≤ k + 1 ∧ Hid (m + q = k + 1) ∧ Aside (Two wA l (fun x => .int .i64 (pl l m x)) (k + 1) (.slice a (k + 1) c) (.slice (some ⟨g, 0, none⟩) (k + 1) (k + 1)) wx'))
        case atStart =>
          refine ⟨0, rfl, Nat.zero_le _, Nat.zero_add _, a, c, g, rfl, rfl, h5.out.1, ?_, h5.out.2.2⟩
          exact h5.out.2.1.congr fun i hi => by rw [pl_zero]
        case round =>
          clear h5
          obtain ⟨m, rfl, hm, hq, hT⟩ := hrel
          by_cases hlt : m < k + 1
          · obtain ⟨q, hq2⟩ : ∃ q, Hid (gk = q + 1) := ⟨gk - 1, by have := hq.out; show gk = _; omega⟩
            obtain ⟨p1, p2, p3, p4, p5⟩ := hT.out.parts
            have hml : m < l.length := by rw [HL.out.1]; exact hlt
            have hy : l.getD m 0 < k + 1 := by
              rw [show l.getD m 0 = l[m] by simp [List.getD_eq_getElem?_getD, hml]]
              exact (HL.out.2.1 _).1 (List.getElem_mem hml)
            have hpz : pl l m (l.getD m 0) = 0 := by
              rw [show l.getD m 0 = l[m] by simp [List.getD_eq_getElem?_getD, hml]]
              exact pl_fresh HL.out.2.2 hml
            have c2 := p2.cell hy
            have f2 := p2.frozen (l.getD m 0)
            rw [hpz] at c2
            obtain ⟨b, o, rfl, c1⟩ : ∃ b o, a = some ⟨b, o, none⟩ ∧ wr.cell? ⟨b, o + m, none⟩ = some (.int .i64 ((l.getD m 0 : Nat) : Int)) := by
              obtain ⟨a', c', e1, _, _, h3⟩ := p3
              simp only [Value.slice.injEq] at e1
              obtain ⟨rfl, -, rfl⟩ := e1
              obtain ⟨b, o, rfl, hc⟩ := h3 (by omega)
              exact ⟨b, o, rfl, hc m hml⟩
            have hT2 : Aside (Two wA l (fun x => .int .i64 (pl l (m + 1) x)) (k + 1) (.slice (some ⟨b, o, none⟩) (k + 1) c) (.slice (some ⟨g, 0, none⟩) (k + 1) (k + 1)) (wr.setCell ⟨g, l.getD m 0, none⟩ (.int .i64 ((m : Int) + 1)))) := two_set HL.out.2.2 hml hT.out
            have y0 : (0 : Int) ≤ (m : Int) := by omega
            have y1 : (m : Int) < (k : Int) + 1 := by omega
            have y2 : (0 : Int) ≤ ((l.getD m 0 : Nat) : Int) := by omega
            have y3 : ((l.getD m 0 : Nat) : Int) < (k : Int) + 1 := by omega
            clear p1 p2 p3 p4 p5 hpz hT
            generalize l.getD m 0 = y at *
            go_wp2_with fail
            go_roundg q
            case measure => have := hq2.out; omega
            case rel => exact ⟨m + 1, by go_num, by omega, by have := hq.out; have := hq2.out; show _ = _; omega, hT2⟩
          · obtain rfl : m = k + 1 := by omega
            obtain ⟨wB, rfl⟩ : ∃ wB, wB = wr := ⟨_, rfl⟩
            obtain ⟨p1, p2, p3, p4, p5⟩ := hT.out.parts
            have HP : Aside (Own w1 zs k wB ∧ wB.rowIs g 3 (k + 1) (fun x => .int .i64 (pl l (k + 1) x)) ∧ Below wA.heap.size wA wB) := ⟨hO.out.below p5, p2, p5⟩
            have y1 : ((k + 1 : Nat) : Int) = (k : Int) + 1 := by omega
            clear p1 p2 p3 p4 p5 hT hlt hm hq
            go_wp2_with fail
            clear y1
            go_loopg [94] k (fun q t wy => ∃ j : Nat, t = .int .i64 j ∧ j ≤ k ∧ Hid (j + q = k) ∧ Aside (Below wB.heap.size wB wy))
            case atStart => exact ⟨0, rfl, Nat.zero_le _, Nat.zero_add _, Below.refl _ _⟩
            case round =>
              obtain ⟨j, rfl, hj, hq, hb⟩ := hrel
              by_cases hlt : j < k
              · obtain ⟨q, hq2⟩ : ∃ q, Hid (gk = q + 1) := ⟨gk - 1, by have := hq.out; show gk = _; omega⟩
                obtain ⟨b, off, rfl, hB⟩ := HR.out (by omega)
                obtain ⟨hcw, hz1⟩ := hB j hlt
                have hz0 := HZ.out j
                obtain ⟨u, hu, hul⟩ := uof_step zs j hz0
                have hU : Uof zs (j + 1) = (u : Int) := hu
                have c1 : wr.cell? ⟨b, off + j, none⟩ = some (.int .u8 (zs.getD j 0)) := by
                  have e1 := (HB1.out.cell (p := ⟨b, off + j, none⟩) (ltc hcw)).trans hcw
                  have e2 := (HP.out.1.frame.cell (p := ⟨b, off + j, none⟩) (ltc e1)).trans e1
                  exact (hb.out.cell (p := ⟨b, off + j, none⟩) (ltc e2)).trans e2
                have d1 := deep_q (HP.out.1.below hb.out) HZ.out (by omega) (j + 1) (by omega)
                have d2 := deep_q (HP.out.1.below hb.out) HZ.out (by omega) u (by omega)
                have hds := depth_step (uof_ok zs (k + 1) HZ.out) (show 0 < j + 1 by omega) (by omega) hU
                have hdl := depth_le (uof_ok zs (k + 1) HZ.out) u (by omega)
                have hix := HF.out (j + 1) u (by omega) (by omega) hU
                have c2 := (hb.out.cell (p := ⟨g, u, none⟩) (ltc (HP.out.2.1.cell (show u < k + 1 by omega)))).trans (HP.out.2.1.cell (show u < k + 1 by omega))
                have c3 := (hb.out.cell (p := ⟨g, j + 1, none⟩) (ltc (HP.out.2.1.cell (show j + 1 < k + 1 by omega)))).trans (HP.out.2.1.cell (show j + 1 < k + 1 by omega))
                have e2 : pl l (k + 1) u = (l.idxOf u : Int) + 1 := by have := pl_all ((HL.out.2.1 u).2 (by omega)); rwa [HL.out.1] at this
                have e3 : pl l (k + 1) (j + 1) = (l.idxOf (j + 1) : Int) + 1 := by have := pl_all ((HL.out.2.1 (j + 1)).2 (by omega)); rwa [HL.out.1] at this
                rw [e2] at c2
                rw [e3] at c3
                rw [hds] at d1
                clear hB hcw hU hds e2 e3
                generalize depth (Uof zs) u = d at *
                obtain ⟨q1, hq1⟩ : ∃ q1 : Int, q1 = (l.idxOf u : Int) + 1 := ⟨_, rfl⟩
                obtain ⟨q2, hq3⟩ : ∃ q2 : Int, q2 = (l.idxOf (j + 1) : Int) + 1 := ⟨_, rfl⟩
                rw [← hq1] at c2
                rw [← hq3] at c3
                have hqq : q1 < q2 := by omega
                clear hq1 hq3 hix
                generalize zs.getD j 0 = z at *
                have y0 : (0 : Int) ≤ (j : Int) := by omega
                have y1 : (j : Int) < (k : Int) := by omega
                have y2 : (0 : Int) ≤ (u : Int) := by omega
                have y3 : (u : Int) < (k : Int) + 1 := by omega
                have y4 : (d : Int) ≤ (k : Int) := by omega
                have y5 : (0 : Int) ≤ (d : Int) := by omega
                have hd : decide (q2 ≤ q1) = false := decide_eq_false (by omega)
                go_wp2_with fail
                rw [hu]
                have hw1 : IntKind.i64.wrap ((j : Int) + 1) = (j : Int) + 1 := IntWalk.i64_in _ (by omega)
                have hw2 : IntKind.i64.wrap ((d : Int) + 1) = (d : Int) + 1 := IntWalk.i64_in _ (by omega)
                have y6 : (0 : Int) ≤ (j : Int) + 1 := by omega
                have y7 : (j : Int) + 1 < (k : Int) + 1 := by omega
                have y8 : ((j : Int) + 1).toNat = j + 1 := by omega
                have e1 : ∀ n' : Nat, Calls Try.prog 8 #[.pointer (some ⟨w1.heap.size, 0, none⟩), .int .i64 ((j : Int) + 1)] (wr.drewN n') fun e w2 => e = .returned (.int .i64 ((d : Int) + 1)) ∧ ∃ m, w2 = wr.drewN m := d1
                have D1 := Lib.hid e1
                have D2 := Lib.hid d2
                clear d1 d2 e1 c1 hz1 hz0 hdl
                go_quiet ((first | with_reducible exact D1.out _ | with_reducible exact D2.out _))
                clear hw1 hw2 y6 y7 y8 D1 D2
                go_wp2_with fail
                go_roundg q
                case measure => have := hq2.out; omega
                case rel => exact ⟨j + 1, by go_num, by omega, by have := hq.out; have := hq2.out; show _ = _; omega, ⟨hb.out.os, hb.out.tape, hb.out.output, hb.out.size, hb.out.block⟩⟩
              · obtain rfl : j = k := by omega
                go_wp2_with fail
                go_ret
                exact ⟨rfl, (HB1.out.trans (HP.out.1.frame.mono HB1.out.size)).trans (hb.out.mono (Nat.le_trans HB1.out.size HP.out.1.frame.size))⟩
end Go.Proofs.Ytegbaocpacbljaa.arenaWalks
