/- The document's Chars: the characters, or the place at which none stands. -/
import Derived.Test.YtoilalffhmjhdaaGreatDoorJoinMath
import Derived.Test.YtoilalffhmjhdaaGreatDoorRefText
import Derived.Laws.OwnMore
set_option linter.unusedSimpArgs false
set_option linter.unusedVariables false
namespace Go.Proofs.YtoilalffhmjhdaaGreatDoor.ref
open Go.RowKit Go.Proofs.YtoilalffhmjhdaaGreatDoor.errs Go.Proofs.YtoilalffhmjhdaaGreatDoor.utf Go.Proofs.YtoilalffhmjhdaaGreatDoor.umath Go.Proofs.YtoilalffhmjhdaaGreatDoor.half Go.Proofs.YtoilalffhmjhdaaGreatDoor.text Go.Proofs.YtoilalffhmjhdaaGreatDoor.chars

/-- What the document's Chars answers. -/
def RefCharsOut (s : ByteArray) (o : Option Nat) (w : World) (e : Ending) (w' : World) : Prop :=
  match o with
  | none => ∃ v, e = .returned (.tuple #[v, .int .i64 (-1)]) ∧ Aside (w'.ownsRow w.heap.size 3 1 v (all s).length (ints (all s)) ∧ Below w.heap.size w w')
  | some i => ∃ v, e = .returned (.tuple #[v, .int .i64 i]) ∧ Below w.heap.size w w'

theorem own_below {w w' : World} {B n : Nat} {e : TypeId} {v : Value} {xs : List Value} (h : w.ownsRow B e 1 v n xs) (hb : Below w.heap.size w w') : w'.ownsRow B e 1 v n xs := by
  refine ⟨h.1, ?_⟩
  rcases h.2 with h0 | ⟨g, cap, cur, hv, hB, hg, hr⟩
  · exact .inl h0
  · refine .inr ⟨g, cap, cur, hv, hB, ?_, hr⟩
    have hlt : g < w.heap.size := (Array.getElem?_eq_some_iff.1 hg).1
    rw [hb.block g hlt]
    exact hg

set_option maxHeartbeats 2000000 in
theorem chars_ref (s : ByteArray) (v : Value) (w : World) (hv : Sl w v s) (hz : s.size ≤ 1000000) :
    Calls Tryz.prog 35 #[v] w fun e w' => RefCharsOut s (firstBad s) w e w' := by
  obtain ⟨a, cap, rfl, h1, h2, h3⟩ := hv
  obtain ⟨n, hn⟩ : ∃ n, Hid (s.size = n) := ⟨_, rfl⟩
  rw [hn.out] at h1 h3 hz ⊢
  obtain ⟨res, hres⟩ : ∃ res, Hid (firstBad s = res) := ⟨_, rfl⟩
  rw [hres.out]
  obtain ⟨i0, hi, hz0, hz1, hz2⟩ := info_parts infoInt
  go_enter Tryz.func35, Tryz.ntmps35
  go_wp2_with fail
  have B0 : Aside (0 < n → ∃ b off, a = some ⟨b, off, none⟩ ∧ Bytes s b off w) := h3
  clear h3
  go_loopg [4, 5] n (fun g t u wr => ∃ (pos : Nat) (acc : List Int) (t0 : Value), u = .int .i64 pos ∧ t0 = t ∧ pos ≤ n ∧ n ≤ pos + g ∧ acc.length ≤ pos ∧ Aside (acc ++ from_ s g pos = all s ∧ scan s g pos = res ∧ wr.ownsRow w.heap.size 3 1 t0 acc.length (ints acc) ∧ Below w.heap.size w wr))
  case atStart => exact ⟨0, [], _, rfl, rfl, by omega, by omega, by simp, by simp [all, hn.out], by rw [← hn.out]; exact hres.out, World.ownsRow_lit w #[] 0 (Nat.le_refl _) (by unfold maxLen; omega) rfl, (Below.refl _ _).alloc (Nat.le_refl _) _⟩
  case round =>
    obtain ⟨pos, acc, t0, rfl, rfl, hp, hg, hal, hA⟩ := hrel
    by_cases hlt : pos < n
    · obtain ⟨g, rfl⟩ : ∃ g, gk = g + 1 := ⟨gk - 1, by omega⟩
      have hps : pos < s.size := by rw [hn.out]; exact hlt
      obtain ⟨b, off, rfl, hB⟩ := B0.out (by omega)
      have y1 : (pos : Int) < (n : Int) := by omega
      have D : Calls Tryz.prog 62 #[.slice (some ⟨b, off, none⟩) n cap, .int .i64 pos] wr fun e w'' => e = .returned (.tuple #[.int .i64 (refN s pos).1, .int .i64 (refN s pos).2]) ∧ Below wr.heap.size wr w'' := by
        rw [← hn.out]
        exact next_any s b off cap pos wr (hB.below hA.out.2.2.2 (Nat.le_refl _)) hps (by rw [hn.out]; exact h1) h2 (by rw [hn.out]; exact hz)
      have hfit := decode_fits s pos hps
      rw [hn.out] at hfit
      obtain ⟨b1, b2, b3⟩ := decode_bounds s pos
      have hB' : Aside (Bytes s b off w) := hB
      clear hB
      cases hc : charAt s pos with
      | false =>
        have er : refN s pos = (0, 0) := by unfold refN; rw [if_neg (by rw [hc]; decide)]
        rw [er] at D
        have V : Aside (res = some pos) := by
          have := hA.out.2.1
          rw [scan_bad s g pos hps hc] at this
          exact this.symm
        clear hc er b1 b2 b3 hfit hps
        go_wp2_with fail
        refine D.mono ?_; rintro e w2 ⟨rfl, k2⟩
        have K2 : Aside (Below w.heap.size w w2) := hA.out.2.2.2.trans (k2.mono hA.out.2.2.2.size)
        clear k2
        go_wp2_with fail
        go_ret2
        rw [V.out]
        exact ⟨_, rfl, K2.out.alloc K2.out.size _⟩
      | true =>
        have er : refN s pos = Utf8.decode s pos := by unfold refN; rw [if_pos hc]
        rw [er] at D
        have hf : Aside (acc ++ ((Utf8.decode s pos).1 : Int) :: from_ s g (pos + (Utf8.decode s pos).2) = all s ∧ scan s g (pos + (Utf8.decode s pos).2) = res) := by
          have q1 := hA.out.1
          have q2 := hA.out.2.1
          rw [from_step s g pos hps] at q1
          rw [scan_step s g pos hps hc] at q2
          exact ⟨q1, q2⟩
        clear hc er hps
        generalize (Utf8.decode s pos).1 = R at *
        generalize (Utf8.decode s pos).2 = K at *
        have z1 : ((K : Int) == 0) = false := beq_eq_false_iff_ne.2 (by omega)
        go_wp2_with fail
        refine D.mono ?_; rintro e w2 ⟨rfl, k2⟩
        have N2 : Aside (w2.ownsRow w.heap.size 3 1 t0 acc.length (ints acc) ∧ Below w.heap.size w w2) := ⟨own_below hA.out.2.2.1 k2, hA.out.2.2.2.trans (k2.mono hA.out.2.2.2.size)⟩
        clear k2
        go_wp2_with (at_builtin; refine wpList_append_own _ rfl _ _ 68 rfl w.heap.size 3 i0 (.int .i64 0) 1 8 Tryz.underlying68 hi hz0 hz1 hz2 rfl (by decide) t0 acc.length (ints acc) rfl (N2.out.1.alloc _) ⟨w2.heap.size, 0, none⟩ 1 1 [.int .i64 (R : Int)] rfl rfl ?c1 ?c2 ?c3 ?c4 ?c5 ?_)
        case c1 =>
          intro j u hj
          obtain rfl : j = 0 := by
            have := (List.getElem?_eq_some_iff.1 hj).1
            simpa using this
          rw [show (Addr.add ⟨w2.heap.size, 0, none⟩ 0 : Addr) = ⟨w2.heap.size, 0, none⟩ by simp [Addr.add], World.cell?_alloc_at _ _ _ _ rfl]
          simpa using hj
        case c2 => intro u hu; simp at hu; subst hu; rfl
        case c3 => unfold maxLen; omega
        case c4 => omega
        case c5 => have := N2.out.2.size; simp; omega
        intro v' w3 hown' hgrow _
        have N : Aside (w3.ownsRow w.heap.size 3 1 v' (acc.length + 1) (ints acc ++ [Value.int IntKind.i64 (R : Int)]) ∧ Below w.heap.size w w3) :=
          ⟨hown', (N2.out.2.alloc N2.out.2.size _).grown hgrow (by have := N2.out.2.size; simp; omega) (fun q hq => (N2.out.1.lt q hq).1)⟩
        clear hown' hgrow
        go_wp2_with fail
        go_roundg g
        case measure => omega
        case rel =>
          refine ⟨pos + K, acc ++ [(R : Int)], v', by go_num, rfl, by omega, by omega, by simp; omega, ?_, hf.out.2, ?_, N.out.2⟩
          · rw [← hf.out.1]; simp
          · have := N.out.1
            simpa [ints] using this
    · obtain rfl : pos = n := by omega
      have y1 : ¬ (pos : Int) < (pos : Int) := by omega
      have V : Aside (acc = all s ∧ res = none) := by
        have q1 := hA.out.1
        have q2 := hA.out.2.1
        rw [from_end s gk _ (by rw [hn.out]; omega)] at q1
        rw [scan_end s gk _ (by rw [hn.out]; omega)] at q2
        exact ⟨(List.append_nil acc).symm.trans q1, q2.symm⟩
      go_wp2_with fail
      go_ret2
      rw [V.out.2]
      exact ⟨t0, rfl, by rw [← V.out.1]; exact hA.out.2.2.1, hA.out.2.2.2⟩
end Go.Proofs.YtoilalffhmjhdaaGreatDoor.ref
