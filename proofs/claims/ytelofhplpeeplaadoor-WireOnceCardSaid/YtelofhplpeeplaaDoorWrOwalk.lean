/- The law on requests that are taken out once: for any script whose texts are no longer than a slice of bytes may be, it returns true. -/
import Derived.Test.YtelofhplpeeplaaDoorWrGood
import Derived.Test.YtelofhplpeeplaaDoorWrSpeaks
import Derived.Deep.LoopGhost
import Derived.Deep.DeepCutAuto
import Derived.Deep.CutBlock
import Derived.IntWalk
import Derived.Test.YtelofhplpeeplaaDoorWrBits
set_option linter.unusedSimpArgs false
set_option linter.unusedVariables false
namespace Go.Proofs.YtelofhplpeeplaaDoor.wireOnce
open Go.RowKit Go.Proofs.YtelofhplpeeplaaDoor.errs Go.Proofs.YtelofhplpeeplaaDoor.wire

/-- What holds at the beginning of a round. -/
structure At (w0 wr : World) (asked gone i : Nat) (v : Value) (L : List Rq) : Prop where
  bk : Bk wr w0.heap.size w0.heap.size v asked L
  below : Below w0.heap.size w0 wr
  good : GoodL asked L
  sum : L.length + gone = asked
  few : asked ≤ i

theorem At.on {w0 wr w1 : World} {asked gone i : Nat} {v : Value} {L : List Rq} (h : At w0 wr asked gone i v L) (hb : Below wr.heap.size wr w1) : At w0 w1 asked gone i v L :=
  ⟨h.bk.kept hb, h.below.trans (hb.mono h.below.size), h.good, h.sum, h.few⟩
theorem At.left {w0 wr w1 : World} {asked gone i : Nat} {v : Value} {L : List Rq} (h : At w0 wr asked gone i v L) {p : Rq → Bool} (hl : wire.Left p wr w0.heap.size w0.heap.size v asked L w1) : ∃ v', At w0 w1 asked (gone + (L.filter p).length) i v' (L.filter (fun x => !p x)) ∧ v'.ownBlock = v.ownBlock := by
  obtain ⟨v', h1, h2, h3⟩ := hl
  refine ⟨v', ⟨h1, h.below.trans (h3.below h.below.size (Nat.le_refl _) (fun q hq => (h.bk.row.lt q hq).1)), h.good.filter _, ?_, h.few⟩, h2⟩
  have := filter_both p L
  have := h.sum
  omega
theorem At.more {w0 wr : World} {asked gone i : Nat} {v : Value} {L : List Rq} (h : At w0 wr asked gone i v L) : At w0 wr asked gone (i + 1) v L := ⟨h.bk, h.below, h.good, h.sum, by have := h.few; omega⟩
theorem At.asks {w0 wr w1 : World} {n gone i : Nat} {v v' : Value} {L : List Rq} {x : Rq} {t : Nat} (h : At w0 wr n gone i v L) (h1 : Bk w1 w0.heap.size w0.heap.size v' (n + 1) (L ++ [asked x (n + 1) t])) (h2 : Far w0.heap.size v.ownBlock wr w1) : At w0 w1 (n + 1) gone (i + 1) v' (L ++ [asked x (n + 1) t]) := by
  refine ⟨h1, h.below.trans (h2.below h.below.size (Nat.le_refl _) (fun q hq => (h.bk.row.lt q hq).1)), h.good.ask x t, ?_, by have := h.few; omega⟩
  have := h.sum
  rw [List.length_append, List.length_singleton]
  omega
/-- What holds behind a call of the script. -/
def After (w0 : World) (i : Nat) (t5 t6 : Value) (wx : World) : Prop := ∃ (n gone : Nat) (v : Value) (L : List Rq), t5 = .int .u64 (n : Int) ∧ t6 = .int .i64 (gone : Int) ∧ At w0 wx n gone i v L
theorem after_mk {w0 wx : World} {i : Nat} (n gone : Nat) (v : Value) (L : List Rq) (h : At w0 wx n gone i v L) : After w0 i (.int .u64 (n : Int)) (.int .i64 (gone : Int)) wx := ⟨n, gone, v, L, rfl, rfl, h⟩

set_option maxRecDepth 100000 in
set_option maxHeartbeats 4000000 in
theorem law (a : Option Addr) (len cap : Nat) (f : Nat → OpR) (w : World) (hO : IsScr w a len cap f) (hS : ∀ i, i < len → (f i).r.app.size ≤ 281474976710656 ∧ (f i).r.text.size ≤ 281474976710656 ∧ (f i).r.url.size ≤ 281474976710656) (hL : Laid w) :
    Calls Tryd.prog 5 #[.slice a len cap] w fun e w' => e = .returned (.bool true) ∧ Below w.heap.size w w' := by
  have S := speaks_any w hL
  obtain ⟨r1, r2, r3⟩ := hO
  have HR := Lib.hid r3
  have HS := Lib.hid hS
  have HLa : Aside (Laid w) := hL
  clear r3 hL hS
  by_cases hbig : 200 < len
  · have x1 : (200 : Int) < (len : Int) := by omega
    clear hbig
    go_enter Tryd.func5, Tryd.ntmps5
    go_wp2_with fail
    refine S.mono ?_; rintro e w1 ⟨rfl, hb1⟩
    go_wp2_with fail
    go_ret
    exact ⟨rfl, hb1⟩
  have x1 : ¬ (200 : Int) < (len : Int) := by omega
  have NW := fun w => new_any w
  go_enter Tryd.func5, Tryd.ntmps5
  go_wp2_with fail
  refine S.mono ?_; rintro e w0 ⟨rfl, hb1⟩
  have HB1 : Aside (Below w.heap.size w w0) := hb1
  clear hb1 S
  go_wp2_with fail
  refine (NW _).mono ?_; rintro e w2 ⟨rfl, rfl⟩
  have A0 : Aside (At w0 (w0.alloc (.cells #[.int .u64 0, .slice none 0 0] 74)) 0 0 0 (.slice none 0 0) []) := ⟨book_new w0, up w0 _, good_nil, rfl, Nat.le_refl _⟩
  clear NW
  go_wp2_with fail
  go_loopg [4, 5, 6, 23] len (fun q t4 t5 t6 t23 wr => ∃ (i now asked gone : Nat) (v : Value) (L : List Rq), t4 = .int .u64 (now : Int) ∧ t5 = .int .u64 (asked : Int) ∧ t6 = .int .i64 (gone : Int) ∧ t23 = .int .i64 (i : Int) ∧ i ≤ len ∧ now ≤ 255 * i ∧ Hid (i + q = len) ∧ Aside (At w0 wr asked gone i v L))
  case atStart => exact ⟨0, 0, 0, 0, _, [], rfl, rfl, rfl, rfl, Nat.zero_le _, Nat.zero_le _, Nat.zero_add _, A0.out⟩
  case round =>
    clear A0
    obtain ⟨i, now, asked, gone, v, L, rfl, rfl, rfl, rfl, hi, hnow, hq, hA⟩ := hrel
    by_cases hlt : i < len
    · obtain ⟨q, hq2⟩ : ∃ q, Hid (gk = q + 1) := ⟨gk - 1, by have := hq.out; show gk = _; omega⟩
      obtain ⟨b, off, rfl, hB⟩ := HR.out (by omega)
      have old : ∀ (p : Addr) (u : Value), w.cell? p = some u → wr.cell? p = some u := fun p u h => by
        have h1 : w0.cell? p = some u := (HB1.out.cell (lt_of_cell h)).trans h
        exact (hA.out.below.cell (lt_of_cell h1)).trans h1
      obtain ⟨h0, h1, h2, h3, h4, h5, h6, h7⟩ := hB i hlt
      have c0 := old _ _ h0
      have c1 := old _ _ h1
      have c2 := old _ _ h2
      have c3 := old _ _ h3
      have c4 := old _ _ h4
      have c5 := old _ _ h5
      have c6 := old _ _ h6
      have c7 := old _ _ h7
      have HZ := Lib.hid (HS.out i hlt)
      clear hB h0 h1 h2 h3 h4 h5 h6 h7 old
      generalize f i = o at *
      obtain ⟨ok, ot, oid, oapp, oapple, okind, otext, ourl, osince⟩ := o
      simp only at c0 c1 c2 c3 c4 c5 c6 c7 HZ
      have y0 : (0 : Int) ≤ (i : Int) := by omega
      have y1 : (i : Int) < (len : Int) := by omega
      obtain ⟨d, hd, hd2⟩ := low8 (ot : Int)
      obtain ⟨k7, hk, hk2⟩ := low3 ok
      obtain ⟨nw, hnw⟩ : ∃ nw, nw = now + d := ⟨_, rfl⟩
      have hwn : IntKind.u64.wrap ((now : Int) + (d : Int)) = (nw : Int) := by rw [IntWalk.u64_in _ (by omega)]; omega
      have HN : Hid (nw ≤ 255 * (i + 1)) := by show _ ≤ _; omega
      clear hnw hnow hd2
      go_upto_block 2 with fail
      obtain ⟨W1, hW1⟩ : ∃ W1, wr.alloc (.cells #[.int .i64 ok, .int .u64 (ot : Int), .int .u64 (oid : Int), .string oapp, .bool oapple, .int .i64 okind, .string otext, .string ourl] 47) = W1 := ⟨_, rfl⟩
      have B1 : Aside (At w0 W1 asked gone i v L ∧ Blk W1 wr.heap.size #[.int .i64 ok, .int .u64 (ot : Int), .int .u64 (oid : Int), .string oapp, .bool oapple, .int .i64 okind, .string otext, .string ourl] 47 ∧ wr.heap.size ≠ w0.heap.size ∧ v.ownBlock ≠ some wr.heap.size) := by
        have hb := hA.out.bk.blk.lt
        subst hW1
        exact ⟨hA.out.on (up wr _), blk_new wr _ _, by omega, fun e => by have := (hA.out.bk.row.lt _ e).2; omega⟩
      rw [hW1]
      clear hW1 c0 c1 c2 c3 c4 c5 c6 c7 hA hd hwn
      generalize wr.heap.size = ob at *
      have z0 := B1.out.2.1.get 0
      have z2 := B1.out.2.1.get 2
      have z3 := B1.out.2.1.get 3
      have z4 := B1.out.2.1.get 4
      have z5 := B1.out.2.1.get 5
      have z6 := B1.out.2.1.get 6
      have z7 := B1.out.2.1.get 7
      simp only [List.getElem?_toArray, List.getElem?_cons_zero, List.getElem?_cons_succ] at z0 z2 z3 z4 z5 z6 z7
      have hL200 : Hid (L.length ≤ 200 ∧ gone ≤ 200 ∧ asked ≤ 200) := by have h1 := B1.out.1.sum; have h2 := B1.out.1.few; exact ⟨by omega, by omega, by omega⟩
      go_cut [5, 6] (fun t5 t6 wx => After w0 (i + 1) t5 t6 wx)
      case first =>
        rcases (show k7 = 0 ∨ k7 = 1 ∨ (k7 = 2 ∨ k7 = 3) ∨ 4 ≤ k7 by omega) with rfl | rfl | hk7 | hk7
        · have C := late_any nw (by have := HN.out; omega) w0.heap.size w0.heap.size v asked L W1 B1.out.1.bk (by have := hL200.out.1; omega)
          go_wp2_with fail
          refine C.mono ?_; rintro e w3 ⟨⟨r, rfl, hr⟩, hl⟩
          obtain ⟨ra, rc, rfl⟩ := row_slice hr
          obtain ⟨v', hA3, -⟩ := B1.out.1.left hl
          have hle := List.length_filter_le (late nw) L
          have hwg : IntKind.i64.wrap ((gone : Int) + ((L.filter (late nw)).length : Int)) = ((gone + (L.filter (late nw)).length : Nat) : Int) := by rw [IntWalk.i64_in _ (by have := hL200.out; omega)]; omega
          have HA3 := Lib.hid (after_mk _ _ _ _ hA3.more)
          clear hr hl hA3 hle C B1 z0 z2 z3 z4 z5 z6 z7
          go_wp2_with fail
          go_meet
          exact HA3.out
        · have C := drop_any oapp okind otext w0.heap.size w0.heap.size v asked L W1 B1.out.1.bk (by have := hL200.out.1; omega)
          go_wp2_with fail
          refine C.mono ?_; rintro e w3 ⟨rfl, hl⟩
          obtain ⟨v', hA3, -⟩ := B1.out.1.left hl
          have hle := List.length_filter_le (isFor oapp okind otext) L
          have hwg : IntKind.i64.wrap ((gone : Int) + ((L.filter (isFor oapp okind otext)).length : Int)) = ((gone + (L.filter (isFor oapp okind otext)).length : Nat) : Int) := by rw [IntWalk.i64_in _ (by have := hL200.out; omega)]; omega
          have HA3 := Lib.hid (after_mk _ _ _ _ hA3.more)
          clear hl hA3 hle C B1 z0 z2 z3 z4 z5 z6 z7
          go_wp2_with fail
          go_meet
          exact HA3.out
        · have b0 : ((k7 : Int) == (0 : Int)) = false := beq_eq_false_iff_ne.2 (by omega)
          have b1 : ((k7 : Int) == (1 : Int)) = false := beq_eq_false_iff_ne.2 (by omega)
          have C := take_any oid w0.heap.size w0.heap.size v asked L W1 B1.out.1.bk (by have := hL200.out.1; omega)
          have hone := once (id := oid) L B1.out.1.good.1
          have hag := again oid L
          have MQ : Aside (∀ x r, L.filter (fun x => (x.id : Int) == (oid : Int)) = x :: r → (x.id : Int) = (oid : Int)) := fun x r h => by
            have hm : x ∈ L.filter (fun x => (x.id : Int) == (oid : Int)) := by rw [h]; exact List.mem_cons_self
            exact beq_iff_eq.1 (List.mem_filter.1 hm).2
          unfold TakeIs at C
          have hle : (L.filter (fun x => !hasId oid x)).length ≤ L.length := List.length_filter_le _ _
          have hfl : (L.filter (hasId oid)).length = (L.filter (fun x => (x.id : Int) == (oid : Int))).length := rfl
          have HF : Hid ((L.filter (hasId oid)).length ≤ 1 ∧ (L.filter (fun x => !hasId oid x)).length ≤ 200) := ⟨hone, by have := hL200.out.1; omega⟩
          clear hle hone
          have D : ∀ W v', Bk W w0.heap.size w0.heap.size v' asked (L.filter (fun x => !hasId oid x)) → Calls Tryd.prog 18 #[.pointer (some ⟨w0.heap.size, 0, none⟩), .int .u64 (oid : Int)] W fun e w' => (∃ fb, e = .returned (.tuple #[.agg wire.zero6, .iface 65 (.pointer (some ⟨fb, 0, none⟩))])) ∧ wire.Left (hasId oid) W w0.heap.size w0.heap.size v' asked (L.filter (fun x => !hasId oid x)) w' := fun W v' hb =>
            (take_any oid w0.heap.size w0.heap.size v' asked _ W hb (by have := HF.out.2; omega)).mono fun e w' ⟨h1, h2⟩ => by
              unfold TakeIs at h1
              rw [hag] at h1
              obtain ⟨fb, h1, -⟩ := h1
              exact ⟨⟨fb, h1⟩, h2⟩
          have HZ0 : Hid (((L.filter (fun x => !hasId oid x)).filter (hasId oid)).length = 0) := by
            show List.length ((L.filter (fun x => !hasId oid x)).filter (fun x => (x.id : Int) == (oid : Int))) = 0
            rw [hag]; rfl
          clear hag
          obtain ⟨M, hM⟩ : ∃ M, L.filter (fun x => (x.id : Int) == (oid : Int)) = M := ⟨_, rfl⟩
          rw [hM] at C hfl
          have MQ2 : Aside (∀ x r, M = x :: r → (x.id : Int) = (oid : Int)) := fun x r h => MQ.out x r (hM.trans h)
          clear MQ hM
          rcases hk7 with rfl | rfl
          all_goals
            cases M with
            | nil =>
              go_wp2_with fail
              refine C.mono ?_; rintro e w3 ⟨⟨fb, rfl, -⟩, hl⟩
              obtain ⟨v', hA3, hv'⟩ := B1.out.1.left hl
              obtain ⟨-, -, -, k3⟩ := hl
              have X3 := k3.blk B1.out.2.1 B1.out.2.2.1 B1.out.2.2.2
              have e2 := X3.get 2
              simp only [List.getElem?_toArray, List.getElem?_cons_zero, List.getElem?_cons_succ] at e2
              have l2 := X3.lt
              have hA4 := hA3.on (up w3 (.cells #[.int .u64 0, .string ⟨#[]⟩, .bool false, .int .i64 0, .string ⟨#[]⟩, .string ⟨#[]⟩] 45))
              have D4 := D _ v' hA4.bk
              have HA4 := Lib.hid hA4
              clear hA3 hA4 k3 X3 C D z0 z2 z3 z4 z5 z6 z7
              go_wp2_with fail
              refine D4.mono ?_; rintro e w5 ⟨⟨fb2, rfl⟩, hl⟩
              obtain ⟨v5, hA5, -⟩ := HA4.out.left hl
              rw [HZ0.out, hfl] at hA5
              have HA5 : Hid (After w0 (i + 1) (.int .u64 (asked : Int)) (.int .i64 (gone : Int)) (w5.alloc (.cells #[.int .u64 0, .string ⟨#[]⟩, .bool false, .int .i64 0, .string ⟨#[]⟩, .string ⟨#[]⟩] 45))) := after_mk _ _ _ _ (hA5.more.on (up w5 _))
              clear hl hA5 HA4 D4 e2 l2 B1
              go_wp2_with fail
              go_meet
              exact HA5.out
            | cons x M' =>
              have hx : x.id = oid := by have := MQ2.out x M' rfl; omega
              have hm1 : M'.length = 0 := by have := HF.out.1; rw [hfl, List.length_cons] at this; omega
              obtain ⟨xi, xa, xp, xk, xt, xu, xs⟩ := x
              have hx : xi = oid := hx
              subst hx
              have hwg : IntKind.i64.wrap ((gone : Int) + 1) = ((gone + 1 : Nat) : Int) := by rw [IntWalk.i64_in _ (by have := hL200.out; omega)]; omega
              go_wp2_with fail
              refine C.mono ?_; rintro e w3 ⟨he, hl⟩
              simp only [arr6] at he
              subst he
              obtain ⟨v', hA3, hv'⟩ := B1.out.1.left hl
              obtain ⟨-, -, -, k3⟩ := hl
              have X3 := k3.blk B1.out.2.1 B1.out.2.2.1 B1.out.2.2.2
              have e2 := X3.get 2
              simp only [List.getElem?_toArray, List.getElem?_cons_zero, List.getElem?_cons_succ] at e2
              have l2 := X3.lt
              have hA4 := hA3.on (up w3 (.cells #[.int .u64 (xi : Int), .string xa, .bool xp, .int .i64 xk, .string xt, .string xu] 45))
              have D4 := D _ v' hA4.bk
              have Y4 : Aside (Blk (w3.alloc (.cells #[.int .u64 (xi : Int), .string xa, .bool xp, .int .i64 xk, .string xt, .string xu] 45)) w3.heap.size #[.int .u64 (xi : Int), .string xa, .bool xp, .int .i64 xk, .string xt, .string xu] 45 ∧ w3.heap.size ≠ w0.heap.size ∧ v'.ownBlock ≠ some w3.heap.size ∧ Blk (w3.alloc (.cells #[.int .u64 (xi : Int), .string xa, .bool xp, .int .i64 xk, .string xt, .string xu] 45)) ob #[.int .i64 ok, .int .u64 (ot : Int), .int .u64 (xi : Int), .string oapp, .bool oapple, .int .i64 okind, .string otext, .string ourl] 47 ∧ v'.ownBlock ≠ some ob) :=
                ⟨blk_new w3 _ _, by have := hA3.bk.blk.lt; omega, fun e => by have := (hA3.bk.row.lt _ e).2; omega, X3.alloc _, by rw [hv']; exact B1.out.2.2.2⟩
              have HA4 := Lib.hid hA4
              clear hA3 hA4 k3 X3 C D z0 z2 z3 z4 z5 z6 z7
              go_wp2_with fail
              refine D4.mono ?_; rintro e w5 ⟨⟨fb2, rfl⟩, hl⟩
              obtain ⟨v5, hA5, -⟩ := HA4.out.left hl
              obtain ⟨-, -, -, k5⟩ := hl
              have u0 := (k5.blk Y4.out.1 Y4.out.2.1 Y4.out.2.2.1).get 0
              have u2 := (k5.blk Y4.out.2.2.2.1 B1.out.2.2.1 Y4.out.2.2.2.2).get 2
              simp only [List.getElem?_toArray, List.getElem?_cons_zero, List.getElem?_cons_succ] at u0 u2
              have l5 : w3.heap.size < w5.heap.size := lt_of_cell u0
              have l6 : ob < w5.heap.size := lt_of_cell u2
              rw [HZ0.out, hfl, List.length_cons, hm1] at hA5
              have HA5 : Hid (After w0 (i + 1) (.int .u64 (asked : Int)) (.int .i64 ((gone + 1 : Nat) : Int)) (w5.alloc (.cells #[.int .u64 0, .string ⟨#[]⟩, .bool false, .int .i64 0, .string ⟨#[]⟩, .string ⟨#[]⟩] 45))) := after_mk _ _ _ _ (hA5.more.on (up w5 _))
              clear hA5 HA4 D4 e2 l2 B1 k5 Y4
              go_wp2_with fail
              go_meet
              exact HA5.out
        · have b0 : ((k7 : Int) == (0 : Int)) = false := beq_eq_false_iff_ne.2 (by omega)
          have b1 : ((k7 : Int) == (1 : Int)) = false := beq_eq_false_iff_ne.2 (by omega)
          have b2 : ((k7 : Int) == (2 : Int)) = false := beq_eq_false_iff_ne.2 (by omega)
          have b3 : ((k7 : Int) == (3 : Int)) = false := beq_eq_false_iff_ne.2 (by omega)
          have C := ask_any ⟨oid, oapp, oapple, okind, otext, ourl, 0⟩ HZ.out.1 HZ.out.2.1 HZ.out.2.2 nw w0.heap.size w0.heap.size v asked L W1 B1.out.1.bk (by have := hL200.out; omega) (by have := hL200.out; omega)
          have hfld := fun (m : Int) w => first_field m oapp otext ourl oapple okind w
          obtain ⟨M, hM⟩ : ∃ M, M = asked + 1 := ⟨_, rfl⟩
          have hwm : IntKind.u64.wrap ((asked : Int) + 1) = (M : Int) := by rw [IntWalk.u64_in _ (by have := hL200.out; omega)]; omega
          rw [← hM] at C
          have HM := Lib.hid hM
          clear hM
          go_wp2_with fail
          refine C.mono ?_; rintro e w3 ⟨he, v', h1, h2, -⟩
          simp only [wire.asked, arr6] at he
          subst he
          have HA3 : Hid (After w0 (i + 1) (.int .u64 (M : Int)) (.int .i64 (gone : Int)) w3) := by
            rw [HM.out] at h1 ⊢
            exact after_mk _ _ _ _ (B1.out.1.asks h1 h2)
          clear h1 h2 C B1 z0 z2 z3 z4 z5 z6 z7 hwm
          go_wp2_with fail
          go_meet
          exact HA3.out
      case rest =>
        obtain ⟨n', gone', v', L', rfl, rfl, hA'⟩ := hcut
        have C := len_any _ _ _ _ _ wc hA'.bk
        have wl : IntKind.i64.wrap ((L'.length : Int) + (gone' : Int)) = (n' : Int) := by
          have h1 := hA'.sum
          have h2 := hA'.few
          rw [IntWalk.i64_in _ (by omega)]; omega
        have wu : IntKind.u64.wrap (n' : Int) = (n' : Int) := by
          have h2 := hA'.few
          exact IntWalk.u64_in _ (by omega)
        have HA' : Aside (At w0 wc n' gone' (i + 1) v' L') := hA'
        clear hA' B1 z0 z2 z3 z4 z5 z6 z7 HZ hk2 hL200
        generalize L'.length = m' at *
        go_wp2_with fail
        refine C.mono ?_; rintro e w3 ⟨rfl, rfl⟩
        go_wp2_with fail
        go_roundg q
        case measure => have := hq2.out; omega
        case rel => exact ⟨i + 1, nw, n', gone', v', L', rfl, rfl, rfl, by go_num, by omega, HN.out, by have := hq.out; have := hq2.out; show _ = _; omega, HA'.out⟩
    · have y1 : ¬ (i : Int) < (len : Int) := by omega
      have K : Aside (Below w0.heap.size w0 wr) := hA.out.below
      clear hA hnow
      go_wp2_with fail
      go_ret
      exact ⟨rfl, HB1.out.trans (K.out.mono HB1.out.size)⟩
end Go.Proofs.YtelofhplpeeplaaDoor.wireOnce
