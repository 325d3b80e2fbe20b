/- The walk of the law on URLs that aren't right: it returns true, and what was there stays. -/
import Derived.Test.YtmgdkdohadaknaaDoorPkSpeaks
import Derived.Test.YtmgdkdohadaknaaDoorPkRefused
import Derived.Test.YtmgdkdohadaknaaDoorPkSame
import Derived.Deep.DeepCutAuto
set_option linter.unusedSimpArgs false
set_option linter.unusedVariables false
namespace Go.Proofs.YtmgdkdohadaknaaDoor.pickRefused
open Go.RowKit Go.Proofs.YtmgdkdohadaknaaDoor.errs Go.Proofs.YtmgdkdohadaknaaDoor.wire Go.Proofs.YtmgdkdohadaknaaDoor.pick

theorem eqb (m k : Int) : (m == k) = decide (k = m) := by
  cases h : decide (k = m) with
  | true => have := of_decide_eq_true h; subst this; simp
  | false => have := of_decide_eq_false h; exact beq_eq_false_iff_ne.2 (fun e => this e.symm)
theorem one_is (k : Int) : refusedA [k] = rrefusedA k 0 := by
  unfold refusedA rrefusedA tells
  simp only [List.any_cons, List.any_nil, Bool.or_false, eqb, decide_eq_true_eq, show ¬ (0 : Int) = 21 by decide, show ¬ (0 : Int) = 22 by decide, or_false]
theorem two_is (k f : Int) : refusedA [k, f] = rrefusedA k f := by
  unfold refusedA rrefusedA tells
  simp only [List.any_cons, List.any_nil, Bool.or_false, eqb, Bool.or_eq_true, decide_eq_true_eq]

set_option maxRecDepth 100000 in
set_option maxHeartbeats 2000000 in
theorem law (k i a : Int) (deep : Bool) (W : World) (w0 : (Lit.int .i64 k).wf = true) (w1 : (Lit.int .i64 i).wf = true) (w2 : (Lit.int .i64 a).wf = true) (hT : Tabs W) :
    Calls Tryd.prog 5 #[.int .i64 k, .int .i64 i, .int .i64 a, .bool deep] W fun e w' => e = .returned (.bool true) ∧ Below W.heap.size W w' := by
  have SP := speaks_any W hT
  clear hT w0 w1 w2
  go_enter Tryd.func5, Tryd.ntmps5
  go_wp2_with fail
  refine SP.mono ?_; rintro e w1 ⟨rfl, hb1⟩
  have HB1 := Lib.hid hb1
  clear hb1 SP
  go_wp2_with fail
  refine (fail_any k a w1).mono ?_; rintro e w2 ⟨rfl, rfl⟩
  have n1 := fault_new w1 k a .nilIface
  have b2 : Below w1.heap.size w1 (w1.alloc (.cells #[.int .i64 k, .int .i64 a, .nilIface] 56)) := (Below.refl _ _).alloc (Nat.le_refl _) _
  have H2 := Lib.hid (And.intro n1 (HB1.out.trans (b2.mono HB1.out.size)))
  clear n1 b2
  generalize w1.alloc (.cells #[.int .i64 k, .int .i64 a, .nilIface] 56) = W2 at *
  generalize w1.heap.size = p1 at *
  cases deep with
  | false =>
    have C := refused_any [k] (some ⟨p1, 0, none⟩) W2 (H2.out.1.chain .nil) (by simp)
    rw [one_is] at C
    have D := rrefused_any k 0
    obtain ⟨X, hX⟩ : ∃ X, rrefusedA k 0 = X := ⟨_, rfl⟩
    rw [hX] at C D
    clear hX
    go_wp2_with fail
    refine C.mono ?_; rintro e w3 ⟨x, rfl, hx, hb3⟩
    have HX := Lib.hid hx
    have B3 := Lib.hid (H2.out.2.trans (hb3.mono H2.out.2.size))
    clear hx hb3 C
    go_wp2_with fail
    refine (D w3).mono ?_; rintro e w4 ⟨y, rfl, hy, hb4⟩
    have S := same_is X _ _ w4 (HX.out.below hb4) hy
    have B4 := Lib.hid (B3.out.trans (hb4.mono B3.out.size))
    clear hy hb4 D
    go_wp2_with fail
    refine S.mono ?_; rintro e w5 ⟨rfl, hb5⟩
    have B5 := Lib.hid (B4.out.trans (hb5.mono B4.out.size))
    clear hb5 S
    go_wp2_with fail
    go_ret
    exact ⟨rfl, B5.out⟩
  | true =>
    go_wp2_with fail
    refine (fail_any i 0 W2).mono ?_; rintro e w3 ⟨rfl, rfl⟩
    have n3 := fault_new W2 i 0 .nilIface
    have b3 : Below W2.heap.size W2 (W2.alloc (.cells #[.int .i64 i, .int .i64 0, .nilIface] 56)) := (Below.refl _ _).alloc (Nat.le_refl _) _
    have H3 := Lib.hid (And.intro n3 (H2.out.2.trans (b3.mono H2.out.2.size)))
    clear n3 b3
    generalize W2.alloc (.cells #[.int .i64 i, .int .i64 0, .nilIface] 56) = W3 at *
    generalize W2.heap.size = p2 at *
    go_wp2_with fail
    refine (wrap_any k a _ W3).mono ?_; rintro e w4 ⟨rfl, rfl⟩
    have n4 := fault_new W3 k a (.iface 54 (.pointer (some ⟨p2, 0, none⟩)))
    have b4 : Below W3.heap.size W3 (W3.alloc (.cells #[.int .i64 k, .int .i64 a, .iface 54 (.pointer (some ⟨p2, 0, none⟩))] 56)) := (Below.refl _ _).alloc (Nat.le_refl _) _
    have H4 := Lib.hid (And.intro (n4.chain ((H3.out.1.below b4 (Nat.le_refl _)).chain .nil)) (H3.out.2.trans (b4.mono H3.out.2.size)))
    clear n4 b4
    generalize W3.alloc (.cells #[.int .i64 k, .int .i64 a, .iface 54 (.pointer (some ⟨p2, 0, none⟩))] 56) = W4 at *
    generalize W3.heap.size = p3 at *
    have C := refused_any [k, i] (some ⟨p3, 0, none⟩) W4 H4.out.1 (by simp)
    rw [two_is] at C
    have D := rrefused_any k i
    obtain ⟨X, hX⟩ : ∃ X, rrefusedA k i = X := ⟨_, rfl⟩
    rw [hX] at C D
    clear hX
    go_wp2_with fail
    refine C.mono ?_; rintro e w5 ⟨x, rfl, hx, hb5⟩
    have HX := Lib.hid hx
    have B5 := Lib.hid (H4.out.2.trans (hb5.mono H4.out.2.size))
    clear hx hb5 C
    go_wp2_with fail
    refine (D w5).mono ?_; rintro e w6 ⟨y, rfl, hy, hb6⟩
    have S := same_is X _ _ w6 (HX.out.below hb6) hy
    have B6 := Lib.hid (B5.out.trans (hb6.mono B5.out.size))
    clear hy hb6 D
    go_wp2_with fail
    refine S.mono ?_; rintro e w7 ⟨rfl, hb7⟩
    have B7 := Lib.hid (B6.out.trans (hb7.mono B6.out.size))
    clear hb7 S
    go_wp2_with fail
    go_ret
    exact ⟨rfl, B7.out⟩
end Go.Proofs.YtmgdkdohadaknaaDoor.pickRefused
