/- Whether a part takes a character; whether any of a row of truths is true. -/
import Derived.Test.YtjijdaheabgphaaDoorGpRow
import Derived.Deep.LoopGhost
set_option linter.unusedSimpArgs false
set_option linter.unusedVariables false
namespace Go.Proofs.YtjijdaheabgphaaDoor.gparts
open Go.RowKit Go.Proofs.YtjijdaheabgphaaDoor.errs Go.Proofs.YtjijdaheabgphaaDoor.rows

theorem takes_any (p : Pt) (x : Int) (w : World) :
    Calls Tryd.prog 42 #[.agg #[.int .i32 p.char, .bool p.free, .bool p.many], .int .i32 x] w fun e w' => e = .returned (.bool (p.takes x)) ∧ Below w.heap.size w w' := by
  obtain ⟨c, f, m⟩ := p
  unfold Pt.takes
  show Calls Tryd.prog 42 #[.agg #[.int .i32 c, .bool f, .bool m], .int .i32 x] w fun e w' => e = .returned (.bool (f || decide (c = x))) ∧ Below w.heap.size w w'
  cases f with
  | true =>
    rw [Bool.true_or]
    go_enter Tryd.func42, Tryd.ntmps42
    go_wp2_with fail
    go_ret
    exact ⟨rfl, (Below.refl _ _).alloc (Nat.le_refl _) _⟩
  | false =>
    rw [Bool.false_or]
    by_cases h : c = x
    · have he : (c == x) = true := beq_iff_eq.2 h
      rw [decide_eq_true h]
      clear h
      go_enter Tryd.func42, Tryd.ntmps42
      go_wp2_with fail
      go_ret
      exact ⟨rfl, (Below.refl _ _).alloc (Nat.le_refl _) _⟩
    · have he : (c == x) = false := beq_eq_false_iff_ne.2 h
      rw [decide_eq_false h]
      clear h
      go_enter Tryd.func42, Tryd.ntmps42
      go_wp2_with fail
      go_ret
      exact ⟨rfl, (Below.refl _ _).alloc (Nat.le_refl _) _⟩

/-- Is one of so many truths true? -/
def anyT (n : Nat) (f : Nat → Bool) : Bool := decide (∃ j, j < n ∧ f j = true)
theorem anyT_yes {n : Nat} {f : Nat → Bool} {j : Nat} (h : j < n) (hf : f j = true) : anyT n f = true := decide_eq_true ⟨j, h, hf⟩
theorem anyT_no {n : Nat} {f : Nat → Bool} (h : ∀ j, j < n → f j = false) : anyT n f = false := decide_eq_false fun ⟨j, hj, hf⟩ => by rw [h j hj] at hf; cases hf
theorem anyT_none {n : Nat} {f : Nat → Bool} (h : anyT n f = false) : ∀ j, j < n → f j = false := fun j hj => by
  cases hf : f j with
  | false => rfl
  | true => rw [anyT_yes hj hf] at h; cases h

def IndexOut (n : Nat) (f : Nat → Bool) (w : World) (e : Ending) (w' : World) : Prop := ∃ i : Int, e = .returned (.int .i64 i) ∧ decide (0 ≤ i) = anyT n f ∧ w = w'
set_option maxHeartbeats 1000000 in
theorem index_any (b n cap : Nat) (f : Nat → Bool) (w : World) (h : Row w b n f) (hn : n ≤ 1000001) :
    Calls Tryd.prog 55 #[.slice (some ⟨b, 0, none⟩) n cap, .bool true] w fun e w' => IndexOut n f w e w' := by
  have H : Aside (Row w b n f) := h
  clear h
  go_enter Tryd.func55, Tryd.ntmps55
  go_wp2_with fail
  go_loopg [8] n (fun g t wr => ∃ k : Nat, t = .int .i64 k ∧ g + k = n ∧ wr = w ∧ Aside (∀ j, j < k → f j = false))
  case atStart => exact ⟨0, rfl, rfl, rfl, fun j hj => absurd hj (Nat.not_lt_zero _)⟩
  case round =>
    obtain ⟨k, rfl, hg, rfl, hA⟩ := hrel
    by_cases hlt : k < n
    · obtain ⟨c0, -⟩ := H.out k hlt
      have y0 : (0 : Int) ≤ (k : Int) := by omega
      have y1 : (k : Int) < (n : Int) := by omega
      cases hf : f k with
      | true =>
        rw [hf] at c0
        have V : Aside (anyT n f = true) := anyT_yes hlt hf
        clear hf
        go_wp2_with fail
        go_ret
        exact ⟨k, rfl, by rw [V.out]; exact decide_eq_true y0, rfl⟩
      | false =>
        rw [hf] at c0
        have V : Aside (∀ j, j < k + 1 → f j = false) := fun j hj => by
          rcases (show j < k ∨ j = k by omega) with q | rfl
          · exact hA.out j q
          · exact hf
        clear hf
        go_wp2_with fail
        go_roundg (gk - 1)
        case measure => omega
        case rel => exact ⟨k + 1, by go_num, by omega, rfl, V.out⟩
    · obtain rfl : k = n := by omega
      have y1 : ¬ (k : Int) < (k : Int) := by omega
      go_wp2_with fail
      go_ret
      exact ⟨-1, rfl, by rw [anyT_no hA.out]; rfl, rfl⟩
theorem contains_any (b n cap : Nat) (f : Nat → Bool) (w : World) (h : Row w b n f) (hn : n ≤ 1000001) :
    Calls Tryd.prog 43 #[.slice (some ⟨b, 0, none⟩) n cap, .bool true] w fun e w' => e = .returned (.bool (anyT n f)) ∧ w = w' := by
  have C := index_any b n cap f w h hn
  clear h
  obtain ⟨q, hq⟩ : ∃ q, Hid (anyT n f = q) := ⟨_, rfl⟩
  rw [hq.out]
  cases q with
  | true =>
    have C : Calls Tryd.prog 55 #[.slice (some ⟨b, 0, none⟩) n cap, .bool true] w fun e w' => ∃ i : Int, e = .returned (.int .i64 i) ∧ 0 ≤ i ∧ w = w' := C.mono fun e w' ⟨i, h1, h2, h3⟩ => ⟨i, h1, of_decide_eq_true (h2.trans hq.out), h3⟩
    go_enter Tryd.func43, Tryd.ntmps43
    go_wp2_with fail
    refine C.mono ?_; rintro e w1 ⟨i, rfl, h2, rfl⟩
    go_wp2_with fail
    go_ret
    exact ⟨rfl, rfl⟩
  | false =>
    have C : Calls Tryd.prog 55 #[.slice (some ⟨b, 0, none⟩) n cap, .bool true] w fun e w' => ∃ i : Int, e = .returned (.int .i64 i) ∧ ¬ 0 ≤ i ∧ w = w' := C.mono fun e w' ⟨i, h1, h2, h3⟩ => ⟨i, h1, of_decide_eq_false (h2.trans hq.out), h3⟩
    go_enter Tryd.func43, Tryd.ntmps43
    go_wp2_with fail
    refine C.mono ?_; rintro e w1 ⟨i, rfl, h2, rfl⟩
    have hd : decide (0 ≤ i) = false := decide_eq_false (by omega)
    go_wp2_with fail
    go_ret
    exact ⟨by rw [← hd]; rfl, rfl⟩
end Go.Proofs.YtjijdaheabgphaaDoor.gparts
