/- The law on scripts: whatever the calls, the package's book answers as the document's. -/
import Derived.Test.YtelofhplpeeplaaDoorWrDuo
import Derived.Test.YtelofhplpeeplaaDoorWrUrl
import Derived.Test.YtelofhplpeeplaaDoorWrSpeaks
import Derived.Test.YtelofhplpeeplaaDoorWrBits
import Derived.Test.YtelofhplpeeplaaDoorMdCls
import Derived.Deep.LoopGhost
import Derived.Deep.DeepCutAuto
import Derived.Deep.CutBlock
import Derived.Deep.RegionHeld3
import Derived.IntWalk
set_option linter.unusedSimpArgs false
set_option linter.unusedVariables false
namespace Go.Proofs.YtelofhplpeeplaaDoor.wirePlays
open Go.RowKit Go.Proofs.YtelofhplpeeplaaDoor.errs Go.Proofs.YtelofhplpeeplaaDoor.wire Go.Proofs.YtelofhplpeeplaaDoor.mcls

/-- What holds at the beginning of a round. -/
structure All (w0 wr : World) (now n i : Nat) (v vl vs : Value) (L : List Rq) : Prop where
  duo : Duo w0 wr v vl vs n L n L
  good : GoodL n L
  few : n ≤ i ∧ L.length ≤ n
  since : ∀ x ∈ L, x.since ≤ now
/-- What holds behind a call of the script. -/
def After (w0 : World) (now i ob : Nat) (arr : Array Value) (wx : World) : Prop := ∃ (n : Nat) (v vl vs : Value) (L : List Rq), Trio w0 wx ob arr v vl vs n L n L ∧ GoodL n L ∧ (n ≤ i ∧ L.length ≤ n) ∧ ∀ x ∈ L, x.since ≤ now
theorem filter_few {n i : Nat} {L : List Rq} (p : Rq → Bool) (h : n ≤ i ∧ L.length ≤ n) : n ≤ i + 1 ∧ (L.filter p).length ≤ n := ⟨by omega, Nat.le_trans (List.length_filter_le _ _) h.2⟩
theorem filter_since {now : Nat} {L : List Rq} (p : Rq → Bool) (h : ∀ x ∈ L, x.since ≤ now) : ∀ x ∈ L.filter p, x.since ≤ now := fun x hx => h x (List.mem_filter.1 hx).1

theorem fault_but {S : Nat → Prop} {w w' : World} {b : Nat} {k a : Int} {inner : Value} (h : FaultAt w (.iface 65 (.pointer (some ⟨b, 0, none⟩))) k a inner) (hb : But S w w') (hS : ¬ S b) : FaultAt w' (.iface 65 (.pointer (some ⟨b, 0, none⟩))) k a inner := by
  obtain ⟨b', e, h0, h1, h2⟩ := h
  have e : b = b' := by injection e with _ e; injection e with e; injection e with e; injection e
  subst e
  have eq : ∀ i, w'.cell? ⟨b, i, none⟩ = w.cell? ⟨b, i, none⟩ := fun i => World.cell?_of_block (hb.block b (lt_of_cell h0) hS)
  exact ⟨b, rfl, (eq 0).trans h0, (eq 1).trans h1, (eq 2).trans h2⟩

set_option maxRecDepth 100000 in
set_option maxHeartbeats 4000000 in
theorem law (a : Option Addr) (len cap : Nat) (f : Nat → OpR) (w : World) (hO : IsScr w a len cap f) (hL : Laid w) :
    Calls Tryd.prog 4 #[.slice a len cap] w fun e w' => e = .returned (.bool true) ∧ Below w.heap.size w w' := by
  have S := speaks_any w hL
  obtain ⟨r1, r2, r3⟩ := hO
  have HR := Lib.hid r3
  have HLa : Aside (Laid w) := hL
  clear r3 hL
  by_cases hbig : 200 < len
  · have x1 : (200 : Int) < (len : Int) := by omega
    clear hbig
    go_enter Tryd.func4, Tryd.ntmps4
    go_wp2_with fail
    refine S.mono ?_; rintro e w1 ⟨rfl, hb1⟩
    go_wp2_with fail
    go_ret
    exact ⟨rfl, hb1⟩
  have x1 : ¬ (200 : Int) < (len : Int) := by omega
  have NW := fun w => new_any w
  go_enter Tryd.func4, Tryd.ntmps4
  go_wp2_with fail
  refine S.mono ?_; rintro e w0 ⟨rfl, hb1⟩
  have HB1 : Aside (Below w.heap.size w w0) := hb1
  clear hb1 S
  go_wp2_with fail
  refine (NW _).mono ?_; rintro e w2 ⟨rfl, rfl⟩
  have A0 : Aside (All w0 ((w0.alloc (.cells #[.int .u64 0, .slice none 0 0] 74)).alloc (.cells #[.slice none 0 0, .slice none 0 0, .int .u64 0] 41)) 0 0 0 (.slice none 0 0) (.slice none 0 0) (.slice none 0 0) []) := by
    have hr := rb_new (w0.alloc (.cells #[.int .u64 0, .slice none 0 0] 74))
    rw [show (w0.alloc (.cells #[.int .u64 0, .slice none 0 0] 74)).heap.size = w0.heap.size + 1 by simp] at hr
    refine ⟨⟨(book_new w0).kept (up _ _), ⟨hr.blk, by omega, World.ownsRow_nil _ _ _ _, World.ownsRow_nil _ _ _ _, hr.apart⟩, fun k hk => ?_, (up w0 _).trans ((up _ _).mono (by simp))⟩, good_nil, ⟨Nat.le_refl _, Nat.le_refl _⟩, fun x hx => by cases hx⟩
    rcases hk with rfl | hk | hk
    · exact ⟨by omega, fun e => by cases e⟩
    · cases hk
    · cases hk
  clear NW
  go_wp2_with fail
  go_loopg [5, 24] len (fun q t5 t24 wr => ∃ (i now n : Nat) (v vl vs : Value) (L : List Rq), t5 = .int .u64 (now : Int) ∧ t24 = .int .i64 (i : Int) ∧ i ≤ len ∧ now ≤ 255 * i ∧ Hid (i + q = len) ∧ Aside (All w0 wr now n i v vl vs L))
  case atStart => exact ⟨0, 0, 0, _, _, _, [], rfl, rfl, Nat.zero_le _, Nat.zero_le _, Nat.zero_add _, A0.out⟩
  case round =>
    clear A0
    obtain ⟨i, now, n, v, vl, vs, L, rfl, rfl, hi, hnow, hq, hA⟩ := hrel
    by_cases hlt : i < len
    · obtain ⟨q, hq2⟩ : ∃ q, Hid (gk = q + 1) := ⟨gk - 1, by have := hq.out; show gk = _; omega⟩
      obtain ⟨b, off, rfl, hB⟩ := HR.out (by omega)
      have old : ∀ (p : Addr) (u : Value), w.cell? p = some u → wr.cell? p = some u := fun p u h => by
        have h1 : w0.cell? p = some u := (HB1.out.cell (lt_of_cell h)).trans h
        exact (hA.out.duo.below.cell (lt_of_cell h1)).trans h1
      obtain ⟨h0, h1, h2, h3, h4, h5, h6, h7⟩ := hB i hlt
      have c0 := old _ _ h0
      have c1 := old _ _ h1
      have c2 := old _ _ h2
      have c3 := old _ _ h3
      have c4 := old _ _ h4
      have c5 := old _ _ h5
      have c6 := old _ _ h6
      have c7 := old _ _ h7
      clear hB h0 h1 h2 h3 h4 h5 h6 h7 old
      generalize f i = o at *
      obtain ⟨ok, ot, oid, oapp, oapple, okind, otext, ourl, osince⟩ := o
      simp only at c0 c1 c2 c3 c4 c5 c6 c7
      have y0 : (0 : Int) ≤ (i : Int) := by omega
      have y1 : (i : Int) < (len : Int) := by omega
      have KE : Aside (Below w.heap.size w (wr.alloc (.cells #[.int .i64 ok, .int .u64 (ot : Int), .int .u64 (oid : Int), .string oapp, .bool oapple, .int .i64 okind, .string otext, .string ourl] 47))) := HB1.out.trans ((hA.out.duo.below.trans ((up wr _).mono hA.out.duo.below.size)).mono HB1.out.size)
      by_cases hg1 : 300 < ourl.size
      · have z1 : (300 : Int) < (ourl.size : Int) := by omega
        clear hA
        go_wp2_with fail
        go_ret
        exact ⟨rfl, KE.out⟩
      by_cases hg2 : 300 < oapp.size
      · have z1 : ¬ (300 : Int) < (ourl.size : Int) := by omega
        have z2 : (300 : Int) < (oapp.size : Int) := by omega
        clear hA
        go_wp2_with fail
        go_ret
        exact ⟨rfl, KE.out⟩
      by_cases hg3 : 300 < otext.size
      · have z1 : ¬ (300 : Int) < (ourl.size : Int) := by omega
        have z2 : ¬ (300 : Int) < (oapp.size : Int) := by omega
        have z3 : (300 : Int) < (otext.size : Int) := by omega
        clear hA
        go_wp2_with fail
        go_ret
        exact ⟨rfl, KE.out⟩
      have z1 : ¬ (300 : Int) < (ourl.size : Int) := by omega
      have z2 : ¬ (300 : Int) < (oapp.size : Int) := by omega
      have z3 : ¬ (300 : Int) < (otext.size : Int) := by omega
      have HZ : Hid (oapp.size ≤ 300 ∧ otext.size ≤ 300 ∧ ourl.size ≤ 300) := ⟨by omega, by omega, by omega⟩
      obtain ⟨d, hd, hd2⟩ := low8 (ot : Int)
      obtain ⟨k7, hk, hk2⟩ := low3 ok
      obtain ⟨nw, hnw⟩ : ∃ nw, nw = now + d := ⟨_, rfl⟩
      have hwn : IntKind.u64.wrap ((now : Int) + (d : Int)) = (nw : Int) := by rw [IntWalk.u64_in _ (by omega)]; omega
      have HN : Hid (nw ≤ 255 * (i + 1) ∧ now ≤ nw ∧ nw ≤ 1000000) := ⟨by omega, by omega, by omega⟩
      clear hnw hnow hd2 KE hg1 hg2 hg3
      go_upto_block 2 with fail
      obtain ⟨W1, hW1⟩ : ∃ W1, wr.alloc (.cells #[.int .i64 ok, .int .u64 (ot : Int), .int .u64 (oid : Int), .string oapp, .bool oapple, .int .i64 okind, .string otext, .string ourl] 47) = W1 := ⟨_, rfl⟩
      have B1 : Aside (Trio w0 W1 wr.heap.size #[.int .i64 ok, .int .u64 (ot : Int), .int .u64 (oid : Int), .string oapp, .bool oapple, .int .i64 okind, .string otext, .string ourl] v vl vs n L n L ∧ GoodL n L ∧ (n ≤ i ∧ L.length ≤ n) ∧ ∀ x ∈ L, x.since ≤ nw) := by
        subst hW1
        exact ⟨⟨hA.out.duo.on (up wr _), blk_new wr _ _, hA.out.duo.new _⟩, hA.out.good, hA.out.few, fun x hx => Nat.le_trans (hA.out.since x hx) HN.out.2.1⟩
      rw [hW1]
      clear hW1 c0 c1 c2 c3 c4 c5 c6 c7 hA hd hwn z1 z2 z3
      generalize wr.heap.size = ob at *
      obtain ⟨arr, harr⟩ : ∃ arr : Array Value, Hid ((#[.int .i64 ok, .int .u64 (ot : Int), .int .u64 (oid : Int), .string oapp, .bool oapple, .int .i64 okind, .string otext, .string ourl] : Array Value) = arr) := ⟨_, rfl⟩
      rw [harr.out] at B1
      have HC : Aside (∀ W, Blk W ob arr 47 → W.cell? ⟨ob, 0, none⟩ = some (.int .i64 ok) ∧ W.cell? ⟨ob, 2, none⟩ = some (.int .u64 (oid : Int)) ∧ W.cell? ⟨ob, 3, none⟩ = some (.string oapp) ∧ W.cell? ⟨ob, 4, none⟩ = some (.bool oapple) ∧ W.cell? ⟨ob, 5, none⟩ = some (.int .i64 okind) ∧ W.cell? ⟨ob, 6, none⟩ = some (.string otext) ∧ W.cell? ⟨ob, 7, none⟩ = some (.string ourl)) := fun W h => by
        rw [← harr.out] at h
        exact ⟨h.get 0, h.get 2, h.get 3, h.get 4, h.get 5, h.get 6, h.get 7⟩
      have hL200 : Hid (L.length ≤ 200 ∧ n ≤ 200) := by have := B1.out.2.2.1; exact ⟨by omega, by omega⟩
      obtain ⟨z0, z2, z3, z4, z5, z6, z7⟩ := HC.out _ B1.out.1.box
      go_cut [] (fun wx => After w0 nw (i + 1) ob arr wx)
      case first =>
        rcases (show k7 = 0 ∨ k7 = 1 ∨ (k7 = 2 ∨ k7 = 3) ∨ 4 ≤ k7 by omega) with rfl | rfl | hk7 | hk7
        · have C := late_any nw HN.out.2.2 w0.heap.size w0.heap.size v n L W1 B1.out.1.duo.bk (by have := hL200.out.1; omega)
          have RL := fun W v' vl' vs' N1 L1 (hT : Trio w0 W ob arr v' vl' vs' N1 L1 n L) => rlate_any nw HN.out.2.2 (w0.heap.size + 1) w0.heap.size vl' vs' n L W hT.duo.rb (by have := hL200.out.1; omega) B1.out.2.2.2
          have SM := fun M B1 B2 r1 r2 w h1 h2 hn => rsame_any M B1 B2 r1 r2 w h1 h2 hn
          go_wp2_with fail
          refine C.mono ?_; rintro e w3 ⟨⟨r1, rfl, hr1⟩, v3, g1, g2, g3⟩
          have T3 := Lib.hid (B1.out.1.pkg g1 g3 (.inl g2))
          have R1 : Aside (w3.ownsRow W1.heap.size 45 6 r1 (L.filter (late nw)).length (flatE enc6 (L.filter (late nw))) ∧ ∀ q, r1.ownBlock = some q → ¬ Its (w0.heap.size + 1) vl vs q) := ⟨hr1, fun q hq h => by have := (hr1.lt q hq).1; have := (B1.out.1.duo.rb.lt q h).2; omega⟩
          have D := RL w3 v3 vl vs _ _ T3.out
          clear g1 g2 g3 hr1 C RL
          go_wp2_with fail
          refine D.mono ?_; rintro e w5 ⟨⟨r2, rfl, hr2⟩, hl⟩
          have R2 := Lib.hid hr2
          obtain ⟨vl5, vs5, T5⟩ := T3.out.ref hl
          have R3 : Aside (w5.ownsRow W1.heap.size 45 6 r1 (L.filter (late nw)).length (flatE enc6 (L.filter (late nw)))) := by
            obtain ⟨_, _, -, hbut, -⟩ := hl
            exact own_but R1.out.1 hbut (fun q hq h => R1.out.2 q hq h)
          have SS := SM (L.filter (late nw)) _ _ _ _ w5 R3.out R2.out (by have := List.length_filter_le (late nw) L; have := hL200.out.1; omega)
          have T5 := Lib.hid T5
          clear hl hr2 D SM R1
          go_wp2_with fail
          refine SS.mono ?_; rintro e w6 ⟨rfl, hb⟩
          have K : Aside (After w0 nw (i + 1) ob arr w6) := ⟨n, v3, vl5, vs5, _, T5.out.on hb, B1.out.2.1.filter _, filter_few _ B1.out.2.2.1, filter_since _ B1.out.2.2.2⟩
          clear hb SS T5 T3 R2 R3 B1 z0 z2 z3 z4 z5 z6 z7
          go_wp2_with fail
          go_meet
          exact K.out
        · have PK : Aside (∀ W v' vl' vs' N2 L2, Trio w0 W ob arr v' vl' vs' n L N2 L2 → Calls Tryd.prog 16 #[.pointer (some ⟨w0.heap.size, 0, none⟩), .string oapp, .agg #[.int .i64 okind, .string otext]] W fun e w' => e = .returned (.int .i64 ((L.filter (isFor oapp okind otext)).length : Int)) ∧ ∃ v3, Trio w0 w' ob arr v3 vl' vs' n (L.filter (fun x => !isFor oapp okind otext x)) N2 L2) := fun W v' vl' vs' N2 L2 hT =>
            (drop_any oapp okind otext w0.heap.size w0.heap.size v' n L W hT.duo.bk (by have := hL200.out.1; omega)).mono fun e w' ⟨h1, v3, g1, g2, g3⟩ => ⟨h1, v3, hT.pkg g1 g3 (.inl g2)⟩
          have RF : Aside (∀ W v' vl' vs' N1 L1, Trio w0 W ob arr v' vl' vs' N1 L1 n L → Calls Tryd.prog 17 #[.pointer (some ⟨w0.heap.size + 1, 0, none⟩), .string oapp, .agg #[.int .i64 okind, .string otext]] W fun e w' => e = .returned (.int .i64 ((L.filter (isFor oapp okind otext)).length : Int)) ∧ ∃ vl5 vs5, Trio w0 w' ob arr v' vl5 vs5 N1 L1 n (L.filter (fun x => !isFor oapp okind otext x))) := fun W v' vl' vs' N1 L1 hT =>
            (rdropapp_any oapp okind otext (w0.heap.size + 1) w0.heap.size vl' vs' n L W hT.duo.rb (by have := hL200.out.1; omega)).mono fun e w' ⟨h1, hl⟩ => ⟨h1, hT.ref hl⟩
          have FIN : Aside (∀ W v' vl' vs', Trio w0 W ob arr v' vl' vs' n (L.filter (fun x => !isFor oapp okind otext x)) n (L.filter (fun x => !isFor oapp okind otext x)) → After w0 nw (i + 1) ob arr W) := fun W v' vl' vs' hT => ⟨n, v', vl', vs', _, hT, B1.out.2.1.filter _, filter_few _ B1.out.2.2.1, filter_since _ B1.out.2.2.2⟩
          have T0 : Aside (Trio w0 W1.drew ob arr v vl vs n L n L) := B1.out.1.on (Below.drew (Below.refl _ _))
          generalize (L.filter (isFor oapp okind otext)).length = cnt at *
          go_upto_region 21 with fail
          go_cut [95] (fun t95 wx => t95 = .bool false ∧ After w0 nw (i + 1) ob arr wx)
          case first =>
            go_region_held3 (fun W => W.cell? ⟨ob, 3, none⟩ = some (.string oapp) ∧ W.cell? ⟨ob, 5, none⟩ = some (.int .i64 okind) ∧ W.cell? ⟨ob, 6, none⟩ = some (.string otext))
              (first | exact (have q := HC.out _ T0.out.box; ⟨q.2.2.1, q.2.2.2.2.1, q.2.2.2.2.2.1⟩) | exact (have q := HC.out _ TP.out.box; ⟨q.2.2.1, q.2.2.2.2.1, q.2.2.2.2.2.1⟩) | exact (have q := HC.out _ TR.out.box; ⟨q.2.2.1, q.2.2.2.2.1, q.2.2.2.2.2.1⟩))
              ((first
                | (go_at_call 16; (first | refine (PK.out _ _ _ _ _ _ T0.out).mono ?_ | refine (PK.out _ _ _ _ _ _ TR.out).mono ?_); rintro e w3 ⟨rfl, v3, h3⟩; have TP := Lib.hid h3; clear h3)
                | (go_at_call 17; (first | refine (RF.out _ _ _ _ _ _ T0.out).mono ?_ | refine (RF.out _ _ _ _ _ _ TP.out).mono ?_); rintro e w5 ⟨rfl, vl5, vs5, h5⟩; have TR := Lib.hid h5; clear h5)))
            all_goals
              go_wp2_with fail
              go_meet
              first | exact ⟨rfl, FIN.out _ _ _ _ TR.out⟩ | exact ⟨rfl, FIN.out _ _ _ _ TP.out⟩
          case rest =>
            obtain ⟨rfl, hK⟩ := hcut
            have K := Lib.hid hK
            clear hK B1 PK RF FIN T0 z0 z2 z3 z4 z5 z6 z7
            go_wp2_with fail
            go_meet
            exact K.out
        · have b0 : ((k7 : Int) == (0 : Int)) = false := beq_eq_false_iff_ne.2 (by omega)
          have b1 : ((k7 : Int) == (1 : Int)) = false := beq_eq_false_iff_ne.2 (by omega)
          have C := take_any oid w0.heap.size w0.heap.size v n L W1 B1.out.1.duo.bk (by have := hL200.out.1; omega)
          have RT := fun W v' vl' vs' N1 L1 (hT : Trio w0 W ob arr v' vl' vs' N1 L1 n L) => rtake_any oid (w0.heap.size + 1) w0.heap.size vl' vs' n L W hT.duo.rb (by have := hL200.out.1; omega) B1.out.2.1.1
          unfold TakeIs at C
          unfold RTakeIs at RT
          obtain ⟨M, hM⟩ : ∃ M, L.filter (fun x => (x.id : Int) == (oid : Int)) = M := ⟨_, rfl⟩
          rw [hM] at C RT
          have FIN : Aside (∀ W v' vl' vs', Trio w0 W ob arr v' vl' vs' n (L.filter (fun x => !hasId oid x)) n (L.filter (fun x => !hasId oid x)) → After w0 nw (i + 1) ob arr W) := fun W v' vl' vs' hT => ⟨n, v', vl', vs', _, hT, B1.out.2.1.filter _, filter_few _ B1.out.2.2.1, filter_since _ B1.out.2.2.2⟩
          have LD : Aside (∀ W v' vl' vs' N1 L1 N2 L2, Trio w0 W ob arr v' vl' vs' N1 L1 N2 L2 → Laid W) := fun W v' vl' vs' N1 L1 N2 L2 hT => (HLa.out.below HB1.out (Nat.le_refl _)).below hT.duo.below (Nat.le_refl _)
          clear hM
          rcases hk7 with rfl | rfl
          all_goals
            cases M with
            | nil =>
              have NZ : ∀ w, (binOp .neq 45 (.agg #[.int .u64 0, .string ⟨#[]⟩, .bool false, .int .i64 0, .string ⟨#[]⟩, .string ⟨#[]⟩]) (.agg #[.int .u64 0, .string ⟨#[]⟩, .bool false, .int .i64 0, .string ⟨#[]⟩, .string ⟨#[]⟩])).run Tryd.prog w = .ok (.bool false) w := fun w => req_ne noRq w
              go_wp2_with fail
              refine C.mono ?_; rintro e w3 ⟨⟨fb, rfl, hf, hfb⟩, v3, g1, g2, g3⟩
              have T3 := Lib.hid (B1.out.1.pkg g1 g3 (.inl g2))
              have T4 := Lib.hid (T3.out.on (up w3 (.cells #[.int .u64 0, .string ⟨#[]⟩, .bool false, .int .i64 0, .string ⟨#[]⟩, .string ⟨#[]⟩] 45)))
              have Y4 : Aside (¬ Its (w0.heap.size + 1) vl vs w3.heap.size ∧ FaultAt (w3.alloc (.cells #[.int .u64 0, .string ⟨#[]⟩, .bool false, .int .i64 0, .string ⟨#[]⟩, .string ⟨#[]⟩] 45)) (.iface 65 (.pointer (some ⟨fb, 0, none⟩))) 30 0 .nilIface ∧ ¬ Its (w0.heap.size + 1) vl vs fb) :=
                ⟨fun h => by have := (T3.out.duo.rb.lt _ h).2; omega, hf.below (up w3 _) (Nat.le_refl _), fun h => by have := (B1.out.1.duo.rb.lt _ h).2; omega⟩
              have D := RT _ _ _ _ _ _ T4.out
              have e2 := (HC.out _ T3.out.box).2.1
              have l2 := T3.out.box.lt
              clear g1 g2 g3 hf hfb C RT z0 z2 z3 z4 z5 z6 z7
              go_wp2_with fail
              refine D.mono ?_; rintro e w5 ⟨rfl, hl⟩
              have XB : Blk w5 w3.heap.size #[.int .u64 0, .string ⟨#[]⟩, .bool false, .int .i64 0, .string ⟨#[]⟩, .string ⟨#[]⟩] 45 := by
                obtain ⟨_, _, -, hbut, -⟩ := hl
                exact hbut.blk (blk_new w3 _ _) Y4.out.1
              have F5 : Aside (FaultAt w5 (.iface 65 (.pointer (some ⟨fb, 0, none⟩))) 30 0 .nilIface) := by
                obtain ⟨_, _, -, hbut, -⟩ := hl
                exact fault_but Y4.out.2.1 hbut Y4.out.2.2
              obtain ⟨vl5, vs5, h5⟩ := T4.out.ref hl
              have T5 := Lib.hid h5
              have L5 := LD.out _ _ _ _ _ _ _ _ h5
              have HK : Aside (∀ W, Keeps w5 W → Calls Tryd.prog 9 #[.iface 65 (.pointer (some ⟨fb, 0, none⟩))] W fun e w' => e = .returned (.int .i64 30) ∧ Keeps w5 w') := fun W hW => kind_keeps L5 F5.out hW
              have HA : Aside (∀ W, Keeps w5 W → Calls Tryd.prog 11 #[.iface 65 (.pointer (some ⟨fb, 0, none⟩))] W fun e w' => e = .returned (.int .i64 0) ∧ Keeps w5 w') := fun W hW => at_keeps L5 F5.out hW
              have u0 := XB.get 0
              have u1 := XB.get 1
              have u2 := XB.get 2
              have u3 := XB.get 3
              have u4 := XB.get 4
              have u5 := XB.get 5
              have l8 := XB.lt
              simp only [List.getElem?_toArray, List.getElem?_cons_zero, List.getElem?_cons_succ] at u0 u1 u2 u3 u4 u5
              have CK := HK.out _ (up w5 (.cells #[.int .u64 0, .string ⟨#[]⟩, .bool false, .int .i64 0, .string ⟨#[]⟩, .string ⟨#[]⟩] 45))
              clear XB h5 L5 hl D Y4 T4 T3 LD e2 l2
              go_wp2_with fail
              refine CK.mono ?_; rintro e w7 ⟨rfl, hb⟩
              have CA := HA.out w7 hb
              clear hb CK u0 u1 u2 u3 u4 u5
              go_wp2_with fail
              refine CA.mono ?_; rintro e w8 ⟨rfl, hb⟩
              have K : Aside (After w0 nw (i + 1) ob arr w8) := FIN.out _ _ _ _ (T5.out.on hb)
              clear hb CA HK HA F5 T5 FIN B1
              go_wp2_with fail
              go_meet
              exact K.out
            | cons x M' =>
              obtain ⟨xi, xa, xp, xk, xt, xu, xs⟩ := x
              have NX : ∀ w, (binOp .neq 45 (.agg #[.int .u64 (xi : Int), .string xa, .bool xp, .int .i64 xk, .string xt, .string xu]) (.agg #[.int .u64 (xi : Int), .string xa, .bool xp, .int .i64 xk, .string xt, .string xu])).run Tryd.prog w = .ok (.bool false) w := fun w => req_ne ⟨xi, xa, xp, xk, xt, xu, xs⟩ w
              go_wp2_with fail
              refine C.mono ?_; rintro e w3 ⟨he, v3, g1, g2, g3⟩
              simp only [arr6] at he
              subst he
              have T3 := Lib.hid (B1.out.1.pkg g1 g3 (.inl g2))
              have T4 := Lib.hid (T3.out.on (up w3 (.cells #[.int .u64 (xi : Int), .string xa, .bool xp, .int .i64 xk, .string xt, .string xu] 45)))
              have Y4 : Aside (¬ Its (w0.heap.size + 1) vl vs w3.heap.size) := fun h => by have := (T3.out.duo.rb.lt _ h).2; omega
              have D := RT _ _ _ _ _ _ T4.out
              have e2 := (HC.out _ T3.out.box).2.1
              have l2 := T3.out.box.lt
              clear g1 g2 g3 C RT z0 z2 z3 z4 z5 z6 z7
              go_wp2_with fail
              refine D.mono ?_; rintro e w5 ⟨he, hl⟩
              simp only [arr6] at he
              subst he
              have XB : Blk w5 w3.heap.size #[.int .u64 (xi : Int), .string xa, .bool xp, .int .i64 xk, .string xt, .string xu] 45 := by
                obtain ⟨_, _, -, hbut, -⟩ := hl
                exact hbut.blk (blk_new w3 _ _) Y4.out
              obtain ⟨vl5, vs5, h5⟩ := T4.out.ref hl
              have K : Aside (After w0 nw (i + 1) ob arr (w5.alloc (.cells #[.int .u64 (xi : Int), .string xa, .bool xp, .int .i64 xk, .string xt, .string xu] 45))) := FIN.out _ _ _ _ (h5.on (up w5 _))
              have u0 := XB.get 0
              have u1 := XB.get 1
              have u2 := XB.get 2
              have u3 := XB.get 3
              have u4 := XB.get 4
              have u5 := XB.get 5
              have l8 := XB.lt
              simp only [List.getElem?_toArray, List.getElem?_cons_zero, List.getElem?_cons_succ] at u0 u1 u2 u3 u4 u5
              clear XB h5 hl D Y4 T4 T3 LD e2 l2 FIN B1
              go_wp2_with fail
              go_meet
              exact K.out
        · have b0 : ((k7 : Int) == (0 : Int)) = false := beq_eq_false_iff_ne.2 (by omega)
          have b1 : ((k7 : Int) == (1 : Int)) = false := beq_eq_false_iff_ne.2 (by omega)
          have b2 : ((k7 : Int) == (2 : Int)) = false := beq_eq_false_iff_ne.2 (by omega)
          have b3 : ((k7 : Int) == (3 : Int)) = false := beq_eq_false_iff_ne.2 (by omega)
          obtain ⟨M, hM⟩ : ∃ M, Hid (M = n + 1) := ⟨_, rfl⟩
          obtain ⟨x, hx⟩ : ∃ x : Rq, Hid (x = ⟨M, oapp, oapple, okind, otext, ourl, nw⟩) := ⟨_, rfl⟩
          have PK : Aside (∀ W v' vl' vs' N2 L2, Trio w0 W ob arr v' vl' vs' n L N2 L2 → Calls Tryd.prog 20 #[.pointer (some ⟨w0.heap.size, 0, none⟩), .agg #[.int .u64 (oid : Int), .string oapp, .bool oapple, .int .i64 okind, .string otext, .string ourl], .int .u64 (nw : Int)] W fun e w' => e = .returned (.agg #[.int .u64 (M : Int), .string oapp, .bool oapple, .int .i64 okind, .string otext, .string ourl]) ∧ ∃ v3, Trio w0 w' ob arr v3 vl' vs' M (L ++ [x]) N2 L2) := fun W v' vl' vs' N2 L2 hT =>
            (ask_any ⟨oid, oapp, oapple, okind, otext, ourl, 0⟩ (by have := HZ.out.1; show oapp.size ≤ _; omega) (by have := HZ.out.2.1; show otext.size ≤ _; omega) (by have := HZ.out.2.2; show ourl.size ≤ _; omega) nw w0.heap.size w0.heap.size v' n L W hT.duo.bk (by have := hL200.out.2; omega) (by have := hL200.out.1; omega)).mono fun e w' ⟨h1, v3, g1, g2, g3⟩ => ⟨by rw [h1, hM.out]; rfl, v3, by rw [hx.out, hM.out]; exact hT.pkg g1 g2 g3⟩
          have RF : Aside (∀ W v' vl' vs' N1 L1, Trio w0 W ob arr v' vl' vs' N1 L1 n L → Calls Tryd.prog 21 #[.pointer (some ⟨w0.heap.size + 1, 0, none⟩), .agg #[.int .u64 (oid : Int), .string oapp, .bool oapple, .int .i64 okind, .string otext, .string ourl], .int .u64 (nw : Int)] W fun e w' => e = .returned (.agg #[.int .u64 (M : Int), .string oapp, .bool oapple, .int .i64 okind, .string otext, .string ourl]) ∧ ∃ vl5 vs5, Trio w0 w' ob arr v' vl5 vs5 N1 L1 M (L ++ [x])) := fun W v' vl' vs' N1 L1 hT =>
            (rask_any ⟨oid, oapp, oapple, okind, otext, ourl, 0⟩ nw (w0.heap.size + 1) w0.heap.size vl' vs' n L W hT.duo.rb (by have := hL200.out.2; omega) (by have := hL200.out.1; omega)).mono fun e w' ⟨h1, hl⟩ => ⟨by rw [h1, hM.out]; rfl, by rw [hx.out, hM.out]; exact hT.ref hl⟩
          have FIN : Aside (∀ W v' vl' vs', Trio w0 W ob arr v' vl' vs' M (L ++ [x]) M (L ++ [x]) → After w0 nw (i + 1) ob arr W) := fun W v' vl' vs' hT => by
            refine ⟨M, v', vl', vs', _, hT, ?_, ?_, fun y hy => ?_⟩
            · rw [hx.out, hM.out]
              exact B1.out.2.1.ask ⟨oid, oapp, oapple, okind, otext, ourl, 0⟩ nw
            · have h1 := B1.out.2.2.1
              have h2 := hM.out
              refine ⟨by omega, ?_⟩
              rw [List.length_append, List.length_singleton]
              omega
            · rcases List.mem_append.1 hy with hy | hy
              · exact B1.out.2.2.2 y hy
              · rw [List.mem_singleton.1 hy, hx.out]
                exact Nat.le_refl _
          have NX : ∀ w, (binOp .neq 45 (.agg #[.int .u64 (M : Int), .string oapp, .bool oapple, .int .i64 okind, .string otext, .string ourl]) (.agg #[.int .u64 (M : Int), .string oapp, .bool oapple, .int .i64 okind, .string otext, .string ourl])).run Tryd.prog w = .ok (.bool false) w := fun w => req_ne ⟨M, oapp, oapple, okind, otext, ourl, 0⟩ w
          have T0 : Aside (Trio w0 W1.drew ob arr v vl vs n L n L) := B1.out.1.on (Below.drew (Below.refl _ _))
          go_upto_region 15 with fail
          go_cut [66] (fun t66 wx => t66 = .bool false ∧ After w0 nw (i + 1) ob arr wx)
          case first =>
            go_region_held3 (fun W => W.cell? ⟨ob, 2, none⟩ = some (.int .u64 (oid : Int)) ∧ W.cell? ⟨ob, 3, none⟩ = some (.string oapp) ∧ W.cell? ⟨ob, 4, none⟩ = some (.bool oapple) ∧ W.cell? ⟨ob, 5, none⟩ = some (.int .i64 okind) ∧ W.cell? ⟨ob, 6, none⟩ = some (.string otext) ∧ W.cell? ⟨ob, 7, none⟩ = some (.string ourl))
              (first | exact (HC.out _ T0.out.box).2 | exact (HC.out _ TP.out.box).2 | exact (HC.out _ TR.out.box).2)
              ((first
                | (go_at_call 20; (first | refine (PK.out _ _ _ _ _ _ T0.out).mono ?_ | refine (PK.out _ _ _ _ _ _ TR.out).mono ?_); rintro e w3 ⟨rfl, v3, h3⟩; have TP := Lib.hid h3; clear h3)
                | (go_at_call 21; (first | refine (RF.out _ _ _ _ _ _ T0.out).mono ?_ | refine (RF.out _ _ _ _ _ _ TP.out).mono ?_); rintro e w5 ⟨rfl, vl5, vs5, h5⟩; have TR := Lib.hid h5; clear h5)))
            all_goals
              go_wp2_with fail
              go_meet
              first | exact ⟨rfl, FIN.out _ _ _ _ TR.out⟩ | exact ⟨rfl, FIN.out _ _ _ _ TP.out⟩
          case rest =>
            obtain ⟨rfl, hK⟩ := hcut
            have K := Lib.hid hK
            clear hK B1 PK RF FIN T0 z0 z2 z3 z4 z5 z6 z7
            go_wp2_with fail
            go_meet
            exact K.out
      case rest =>
        obtain ⟨n', v', vl', vs', L', hT, hG, hF, hS⟩ := hcut
        have A2 : Aside (Trio w0 wc ob arr v' vl' vs' n' L' n' L' ∧ GoodL n' L' ∧ (n' ≤ i + 1 ∧ L'.length ≤ n') ∧ ∀ x ∈ L', x.since ≤ nw) := ⟨hT, hG, hF, hS⟩
        clear hT hG hF hS B1 z0 z2 z3 z4 z5 z6 z7 hk2
        obtain ⟨a', cap', hv, -⟩ := own_form A2.out.1.duo.rb.rows
        obtain ⟨m, hm⟩ : ∃ m, Hid (L'.length = m) := ⟨_, rfl⟩
        rw [hm.out] at hv
        have KP : Aside (∀ W, Kp wc W → Trio w0 W ob arr v' vl' vs' n' L' n' L') := fun W hW => A2.out.1.on hW
        have HQ : Aside (∀ W, Kp wc W → W.cell? ⟨w0.heap.size + 1, 0, none⟩ = some (.slice a' m cap') ∧ W.cell? ⟨ob, 5, none⟩ = some (.int .i64 okind) ∧ W.cell? ⟨ob, 6, none⟩ = some (.string otext)) := fun W hW => by
          have T := KP.out W hW
          have q := HC.out _ T.box
          have c := T.duo.rb.blk.get 0
          rw [hv] at c
          exact ⟨c, q.2.2.2.2.1, q.2.2.2.2.2.1⟩
        have HL : Aside (∀ W, Kp wc W → Calls Tryd.prog 22 #[.pointer (some ⟨w0.heap.size, 0, none⟩)] W fun e w' => e = .returned (.int .i64 (m : Int)) ∧ Kp wc w') := fun W hW => by
          have h := len_any _ _ _ _ _ W (KP.out W hW).duo.bk
          rw [hm.out] at h
          exact h.mono fun _ _ ⟨h1, h2⟩ => ⟨h1, h2 ▸ hW⟩
        obtain ⟨U, hU⟩ : ∃ U, urlT okind otext = U := ⟨_, rfl⟩
        have HU1 : Aside (∀ W, Kp wc W → Calls Tryd.prog 23 #[.agg #[.int .i64 okind, .string otext]] W fun e w' => e = .returned (.string U) ∧ Kp wc w') := fun W hW => by
          have h := url_any okind otext HZ.out.2.1 W
          rw [hU] at h
          exact h.mono fun _ _ ⟨h1, h2⟩ => ⟨h1, Kp.step hW h2⟩
        have HU2 : Aside (∀ W, Kp wc W → Calls Tryd.prog 24 #[.agg #[.int .i64 okind, .string otext]] W fun e w' => e = .returned (.string U) ∧ Kp wc w') := fun W hW => by
          have h := rurl_any okind otext HZ.out.2.1 W
          rw [hU] at h
          exact h.mono fun _ _ ⟨h1, h2⟩ => ⟨h1, Kp.step hW h2⟩
        have nm : ((m : Int) != (m : Int)) = false := by rw [bne_eq_false_iff_eq]
        have nu : (U.toList != U.toList) = false := by rw [bne_eq_false_iff_eq]
        clear hU hv
        go_upto_region 29 with fail
        refine cq_region (by kernel_rfl) (by kernel_rfl) ?_
        repeat (first
          | (refine cq_skip rfl ?_; simp only [Act.put, List.setIfInBounds_toArray, List.set_cons_zero, List.set_cons_succ])
          | (refine cq_op rfl ?_; apply Exists.intro; refine ⟨fun W hW => ?_, ?_⟩; (focus (obtain ⟨l0, l1, l2⟩ := HQ.out W hW; go_simp; try rfl)); simp only [Act.put, List.setIfInBounds_toArray, List.set_cons_zero, List.set_cons_succ])
          | (refine cq_call rfl 22 #[.pointer (some ⟨w0.heap.size, 0, none⟩)] (.int .i64 (m : Int)) ?_ HL.out ?_; (focus (intro W; go_simp; done)); simp only [Act.put, List.setIfInBounds_toArray, List.set_cons_zero, List.set_cons_succ])
          | (refine cq_call rfl 23 #[.agg #[.int .i64 okind, .string otext]] (.string U) ?_ HU1.out ?_; (focus (intro W; go_simp; done)); simp only [Act.put, List.setIfInBounds_toArray, List.set_cons_zero, List.set_cons_succ])
          | (refine cq_call rfl 24 #[.agg #[.int .i64 okind, .string otext]] (.string U) ?_ HU2.out ?_; (focus (intro W; go_simp; done)); simp only [Act.put, List.setIfInBounds_toArray, List.set_cons_zero, List.set_cons_succ]))
        refine wpQuiet_nil ?_
        intro w5 k5
        have K5 : Aside (All w0 w5 nw n' (i + 1) v' vl' vs' L') := ⟨(KP.out w5 k5).duo, A2.out.2.1, A2.out.2.2.1, A2.out.2.2.2⟩
        clear KP HQ HL HU1 HU2 nm nu A2 k5
        go_wp2_with fail
        go_roundg q
        case measure => have := hq2.out; omega
        case rel => exact ⟨i + 1, nw, n', v', vl', vs', L', rfl, by go_num, by omega, HN.out.1, by have := hq.out; have := hq2.out; show _ = _; omega, K5.out⟩
    · have y1 : ¬ (i : Int) < (len : Int) := by omega
      have K : Aside (Below w0.heap.size w0 wr) := hA.out.duo.below
      clear hA hnow
      go_wp2_with fail
      go_ret
      exact ⟨rfl, HB1.out.trans (K.out.mono HB1.out.size)⟩
end Go.Proofs.YtelofhplpeeplaaDoor.wirePlays
