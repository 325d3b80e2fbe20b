/- held.onward: all places from the first one on. -/
import Derived.Test.YtoilalffhmjhdaaGreatDoorSbBehind
import Derived.Deep.QuietTactic
import Derived.BigQuiet
set_option linter.unusedSimpArgs false
set_option linter.unusedVariables false
namespace Go.Proofs.YtoilalffhmjhdaaGreatDoor.subst
open Go.RowKit Go.Proofs.YtoilalffhmjhdaaGreatDoor.errs Go.Proofs.YtoilalffhmjhdaaGreatDoor.rows

/-- What a step answers: the list lies where it lay, or in new memory. -/
def StepOut (B : Nat) (v : Value) (L : List Nat) (w : World) (e : Ending) (w' : World) : Prop := ∃ v', e = .returned v' ∧ Nats w' B v' L ∧ w.grownBy w' v.ownBlock ∧ (v'.ownBlock = v.ownBlock ∨ ∀ g, v'.ownBlock = some g → w.heap.size ≤ g)
theorem BehindOut.step {B : Nat} {v : Value} {L : List Nat} {w w' : World} {e : Ending} (h : BehindOut B v L w e w') : StepOut B v L w e w' := by
  obtain ⟨v', h1, h2, h3, h4⟩ := h
  exact ⟨v', h1, h2, h3, .inl h4⟩
theorem grown_step {w wr w1 : World} {g : Nat} {row : Option Nat} {o : Obj} (h : w.grownBy wr (some g)) (k : (wr.alloc o).grownBy w1 row) (hr : ∀ r, row = some r → r = g ∨ w.heap.size ≤ r) : w.grownBy w1 (some g) :=
  ⟨k.os.trans h.os, k.tape.trans h.tape, k.output.trans h.output, Nat.le_trans h.size (Nat.le_trans (by simp) k.size), fun i hi hne => by
    have h1 := h.block i hi hne
    have h2 := Below.heap_alloc wr o i (Nat.lt_of_lt_of_le hi h.size)
    refine (k.block i (by have := h.size; simp; omega) (fun e => ?_)).trans (h2.trans h1)
    rcases hr i e.symm with h3 | h3
    · exact hne (by rw [h3])
    · omega⟩
theorem range_snoc (a k : Nat) : List.range' a (k + 1) = List.range' a k ++ [a + k] := by rw [List.range'_concat, Nat.one_mul]

set_option maxRecDepth 100000 in
set_option maxHeartbeats 2000000 in
theorem onward_any (X : List Int) (rb rcap : Nat) (alike : Bool) (L : List Nat) (v : Value) (B : Nat) (w : World)
    (hv : Nats w B v L) (hB : B ≤ w.heap.size) (hXl : X.length ≤ 1000000) (hgood : ∀ a ∈ L, a ≤ X.length) :
    Calls Tryz.prog 58 #[.agg #[.slice (some ⟨rb, 0, none⟩) X.length rcap, .bool alike], v] w fun e w' => StepOut B v (onwardL X.length L) w e w' := by
  rcases hv.form with ⟨rfl, rfl⟩ | ⟨g, cap, cur, rfl, hBg, hg, hcl, hcm, hcs, htk⟩
  · go_enter Tryz.func58, Tryz.ntmps58
    go_wp2_with fail
    go_ret
    exact ⟨_, rfl, World.ownsRow_nil _ _ _ _, World.grownBy_alloc _ _ _, .inl rfl⟩
  · cases L with
    | nil =>
      go_enter Tryz.func58, Tryz.ntmps58
      go_wp2_with fail
      go_ret
      exact ⟨.slice none 0 0, rfl, World.ownsRow_nil _ _ _ _, World.grownBy_alloc _ _ _, .inr (fun g h => by cases h)⟩
    | cons a r =>
      have c0 : w.cell? ⟨g, 0, none⟩ = some (.int .i64 (a : Int)) := cell_of_heap hg (by
        have h1 := nums_get (a :: r) 0 (by simp)
        rw [← htk, List.getElem?_take_of_lt (by simp), Array.getElem?_toList] at h1
        exact h1)
      have ha : a ≤ X.length := hgood a (List.mem_cons_self ..)
      have hgl : g < w.heap.size := (Array.getElem?_eq_some_iff.1 hg).1
      obtain ⟨W0, hW0⟩ : ∃ W0, w.alloc (.cells #[.slice (some ⟨rb, 0, none⟩) X.length rcap, .bool alike] 66) = W0 := ⟨_, rfl⟩
      have ST : Aside (∀ q, Nats (W0.drewN q) B (.slice (some ⟨g, 0, none⟩) 0 cap) [] ∧ w.grownBy (W0.drewN q) (some g) ∧ (W0.drewN q).cell? ⟨w.heap.size, 0, none⟩ = some (.slice (some ⟨rb, 0, none⟩) X.length rcap)) := by
        intro q
        have hq : ∀ W : World, (W.drewN q).heap = W.heap ∧ (W.drewN q).os = W.os ∧ (W.drewN q).tape = W.tape ∧ (W.drewN q).output = W.output := fun W => by
          induction q with
          | zero => exact ⟨rfl, rfl, rfl, rfl⟩
          | succ q ih => exact ih
        obtain ⟨q1, q2, q3, q4⟩ := hq W0
        refine ⟨⟨rfl, .inr ⟨g, cap, cur, rfl, hBg, by rw [q1, ← hW0]; exact (Below.heap_alloc w _ g hgl).trans hg, Nat.zero_le _, hcm, by rw [hcs, Nat.mul_one], rfl⟩⟩, ?_, ?_⟩
        · have := World.grownBy_alloc w (.cells #[.slice (some ⟨rb, 0, none⟩) X.length rcap, .bool alike] 66) (some g)
          rw [hW0] at this
          exact ⟨by rw [q2]; exact this.os, by rw [q3]; exact this.tape, by rw [q4]; exact this.output, by rw [q1]; exact this.size, by rw [q1]; exact this.block⟩
        · have : W0.cell? ⟨w.heap.size, 0, none⟩ = some (.slice (some ⟨rb, 0, none⟩) X.length rcap) := by rw [← hW0, World.cell?_alloc_at _ _ _ _ rfl]; rfl
          unfold World.cell? at this ⊢
          rw [q1]; exact this
      have hbx : Aside (∀ W, w.grownBy W (some g) → True) := fun _ _ => trivial
      have hlen0 : (0 : Int) < ((a :: r).length : Int) := by simp only [List.length_cons]; omega
      obtain ⟨n, hn⟩ : ∃ n, Hid ((a :: r).length = n) := ⟨_, rfl⟩
      have hn1 : 1 ≤ n := by rw [← hn.out]; simp
      have hlen1 : ((n : Int) == 0) = false := beq_eq_false_iff_ne.2 (by omega)
      obtain ⟨xn, hxn⟩ : ∃ xn, Hid (X.length = xn) := ⟨_, rfl⟩
      obtain ⟨i0, hi, hz0, hz1, hz2⟩ := info_parts infoInt
      obtain ⟨OL, hOL⟩ : ∃ OL, Hid (onwardL X.length (a :: r) = OL) := ⟨_, rfl⟩
      rw [hOL.out]
      have HOL : Hid (List.range' a (xn + 1 - a) = OL) := by show _ = _; rw [← hxn.out]; exact hOL.out
      rw [hn.out] at hcl hlen0 hv ⊢
      rw [hxn.out] at hXl ha hW0 ST ⊢
      have c0' : W0.cell? ⟨g, 0, none⟩ = some (.int .i64 (a : Int)) := by
        rw [← hW0, World.cell?_alloc_lt _ _ _ (by exact hgl)]; exact c0
      have HW0 := Lib.hid hW0
      have hcap : cap ≤ 9223372036854775807 := by unfold maxLen at hcm; omega
      have hcap0 : Hid (¬ cap = 0) := by show ¬ cap = 0; omega
      clear hg htk hcs hgood hbx hW0 hOL
      go_enter Tryz.func58, Tryz.ntmps58
      go_wp2_with fail
      rw [HW0.out]
      go_quiet (fail)
      go_wp2_with fail
      have SZ : Aside (w.heap.size < W0.heap.size) := by
        show _ < _
        rw [← HW0.out]; simp
      have LE : Hid (a + (xn + 1 - a) = xn + 1) := by show _ = _; omega
      go_loopg [5, 6] (xn + 1 - a) (fun gg t u wr => ∃ (p k : Nat) (v0 : Value), t = .int .i64 p ∧ v0 = u ∧ Hid (p = a + k ∧ gg + k = xn + 1 - a) ∧ p ≤ xn + 1 ∧ k ≤ p ∧ Aside (Nats wr B v0 (List.range' a k) ∧ w.grownBy wr (some g) ∧ wr.cell? ⟨w.heap.size, 0, none⟩ = some (.slice (some ⟨rb, 0, none⟩) xn rcap) ∧ (v0.ownBlock = some g ∨ ∀ g', v0.ownBlock = some g' → w.heap.size < g') ∧ w.heap.size < wr.heap.size))
      case atStart => exact ⟨a, 0, _, rfl, rfl, ⟨by omega, by omega⟩, by omega, Nat.zero_le _, (ST.out _).1, (ST.out _).2.1, (ST.out _).2.2, .inl rfl, SZ.out⟩
      case round =>
        obtain ⟨p, k, v0, rfl, rfl, hpk, hp, hkp, hA⟩ := hrel
        obtain ⟨n1, n2, n3, n4, n5⟩ := hA.out
        have y0 : (0 : Int) ≤ (p : Int) := by omega
        by_cases hlt : p ≤ xn
        · have y1 : (p : Int) ≤ (xn : Int) := by omega
          have HN := Lib.hid n1
          have HA2 := Lib.hid (⟨n2, n4, n5⟩ : _ ∧ _ ∧ _)
          have HC := Lib.hid n3
          have KP : Hid (k ≤ 1000001) := by show _ ≤ _; omega
          clear n1 n2 n4 n5 hA c0 c0' hv
          go_wp2_with (at_builtin; refine wpList_append_own_at _ rfl _ _ 68 rfl B 3 i0 _ 1 8 Tryz.underlying68 hi hz0 hz1 hz2 rfl (by decide) v0 k (nums (List.range' a k)) rfl (by have := HN.out; unfold Nats at this; rw [List.length_range'] at this; exact this.alloc _) ⟨wr.heap.size, 0, none⟩ 1 1 [.int .i64 (p : Int)] rfl rfl (cell_one_new _ _ _) (by simp [Value.oneCell']) (by have := KP.out; unfold maxLen; omega) (by have := KP.out; omega) (by have := HA2.out.2.2; simp; omega) ?_; intro v' w1 hown hgrow hnil hat; have R1 := Lib.hid (⟨hown, hgrow, hat⟩ : _ ∧ _ ∧ _); clear hown hgrow hnil hat)
          obtain ⟨hown, hgrow, hat⟩ := R1.out
          have NX : Aside (Nats w1 B v' (List.range' a (k + 1)) ∧ w.grownBy w1 (some g) ∧ w1.cell? ⟨w.heap.size, 0, none⟩ = some (.slice (some ⟨rb, 0, none⟩) xn rcap) ∧ (v'.ownBlock = some g ∨ ∀ g', v'.ownBlock = some g' → w.heap.size < g') ∧ w.heap.size < w1.heap.size) := by
            obtain ⟨m1, m2, m3⟩ := HA2.out
            have hsz := hgrow.size
            simp only [World.size_alloc] at hsz hat
            refine ⟨?_, grown_step m1 hgrow (fun r hr => ?_), ?_, ?_, by omega⟩
            · unfold Nats
              rw [range_snoc, ← hpk.out.1, List.length_append, List.length_range', List.length_singleton]
              have e : nums (List.range' a k ++ [p]) = nums (List.range' a k) ++ [.int .i64 (p : Int)] := by unfold nums; rw [List.map_append]; rfl
              rw [e]; exact hown
            · rcases m2 with h | h
              · rw [h] at hr; exact .inl (Option.some.inj hr).symm
              · exact .inr (Nat.le_of_lt (h r hr))
            · refine hgrow.cell (a := ⟨w.heap.size, 0, none⟩) (by rw [World.cell?_alloc_lt _ _ _ (by exact m3)]; exact HC.out) (fun e => ?_)
              rcases m2 with h | h
              · rw [h] at e; have := Option.some.inj e; have e2 : w.heap.size = g := this; omega
              · have := h _ e.symm; simp at this
            · rcases hat with h | h
              · rw [h]; exact m2
              · refine .inr fun g' hg' => ?_
                rw [h] at hg'
                have := Option.some.inj hg'
                omega
          clear R1 hown hgrow hat
          go_wp2_with fail
          go_roundg (gk - 1)
          case measure => have := hpk.out; omega
          case rel => exact ⟨p + 1, k + 1, v', by go_num, rfl, ⟨by have := hpk.out; omega, by have := hpk.out; omega⟩, by omega, by omega, NX.out⟩
        · have y1 : ¬ (p : Int) ≤ (xn : Int) := by omega
          have V : Aside (StepOut B (.slice (some ⟨g, 0, none⟩) n cap) OL w (.returned v0) wr) := by
            have e : k = xn + 1 - a := by have := hpk.out; omega
            rw [e, HOL.out] at n1
            exact ⟨v0, rfl, n1, n2, n4.imp id (fun h g' hg' => Nat.le_of_lt (h g' hg'))⟩
          clear hA n1 n2 n4 n5
          go_wp2_with fail
          go_ret
          exact V.out
end Go.Proofs.YtoilalffhmjhdaaGreatDoor.subst
