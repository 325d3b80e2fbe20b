/- utf.Text of characters alone: bytes in memory of its own, no error. -/
import Derived.Test.YthkpkohgefikeaaPlain
import Derived.Laws.AppendOwn
set_option linter.unusedSimpArgs false
set_option linter.unusedVariables false
namespace Go.Proofs.Ythkpkohgefikeaa.puny
open Go.RowKit Go.Proofs.Ythkpkohgefikeaa.build

/-- Is a number a character? -/
def IsChar (n : Int) : Prop := 0 ≤ n ∧ n < 1114112 ∧ ¬ (55296 ≤ n ∧ n < 57344)
instance (n : Int) : Decidable (IsChar n) := by unfold IsChar; infer_instance

theorem isChar_yes (n : Int) (w : World) (h : IsChar n) :
    Calls Try.prog 15 #[.int .i64 n] w fun e w' => e = .returned (.bool true) ∧ w = w' := by
  obtain ⟨h0, h1, h2⟩ := h
  rcases (show n < 55296 ∨ 57344 ≤ n by omega) with h3 | h3
  all_goals clear h2
  all_goals go_enter Try.func15, Try.ntmps15
  all_goals go_wp2
  all_goals go_ret
  all_goals exact ⟨rfl, rfl⟩

theorem runeCells_length (n : Int) (h : IsChar n) : (Lib.runeCells n).length ≤ 4 := by
  obtain ⟨h0, h1, h2⟩ := h
  unfold Lib.runeCells
  by_cases c1 : n < 128
  · rw [Lib.encodeRuneZ_one h0 (by omega)]; simp
  by_cases c2 : n < 2048
  · rw [Lib.encodeRuneZ_two (by omega) (by omega)]; simp
  by_cases c3 : n < 65536
  · rw [Lib.encodeRuneZ_three (by omega)]; simp
  · rw [Lib.encodeRuneZ_four (by omega) (by omega)]; simp

set_option maxHeartbeats 2000000 in
theorem text_good (a : Option Addr) (n cap : Nat) (xs : List Int) (w : World) (hn : xs.length = n) (hm : n ≤ 1000000) (hc : Chars w.heap.size a xs w) (hr : ∀ j, j < n → IsChar (xs.getD j 0)) :
    Calls Try.prog 9 #[.slice a n cap] w fun e w' => ∃ v, e = .returned (.tuple #[v, .nilIface]) ∧ Below w.heap.size w w' := by
  have H : Aside (∀ j, j < n → IsChar (xs.getD j 0)) := hr
  have HN : Hid (xs.length = n) := hn
  have HC : Aside (Chars w.heap.size a xs w) := hc
  clear hr hn hc
  go_enter Try.func9, Try.ntmps9
  go_wp2_with fail
  go_loopg [4, 9] n (fun g t s wr => ∃ (k : Nat) (t0 : Value) (l : List Value), s = .int .i64 k ∧ t0 = t ∧ g + k = n ∧ Aside (wr.ownsRow w.heap.size 5 1 t l.length l ∧ l.length ≤ 4 * k ∧ Below w.heap.size w wr))
  case atStart => exact ⟨0, _, [], rfl, rfl, rfl, World.ownsRow_nil w _ _ _, by simp, Below.refl _ _⟩
  case round =>
    obtain ⟨k, t0, l, rfl, rfl, hg, hA⟩ := hrel
    by_cases hlt : k < n
    · obtain ⟨cb, off, rfl, hcb, hcell⟩ := (HC.out.below hA.out.2.2) (by rw [HN.out]; omega)
      have y0 : (0 : Int) ≤ (k : Int) := by omega
      have y1 : (k : Int) < (n : Int) := by omega
      have c0 := hcell k (by rw [HN.out]; exact hlt)
      have x0 := H.out k hlt
      obtain ⟨x, hx⟩ : ∃ x, Hid (xs.getD k 0 = x) := ⟨_, rfl⟩
      rw [hx.out] at c0 x0
      clear hcell
      have I := isChar_yes x wr x0
      have rl := runeCells_length x x0
      obtain ⟨r0, r1, r2⟩ := x0
      have hl := hA.out.2.1
      have AR := Try.utf8_AppendRune_plain w.heap.size t0 l.length l x (by omega) (by omega) wr hA.out.1 (by omega) hA.out.2.2.size
      have AR : Calls Try.prog 16 #[t0, .int .i32 x] wr fun e w' => ∃ v' l', e = .returned v' ∧ Aside (w'.ownsRow w.heap.size 5 1 v' (List.length l') l' ∧ List.length l' ≤ 4 * (k + 1) ∧ Below w.heap.size w w') :=
        AR.mono fun e w' ⟨v', h1, h2, o, h3⟩ => ⟨v', _, h1, by rw [List.length_append]; exact h2, by rw [List.length_append]; omega, (hA.out.2.2.alloc hA.out.2.2.size o).grown h3 (by have := hA.out.2.2.size; simp; omega) (fun q hq => (hA.out.1.lt q hq).1)⟩
      clear r2 hl rl
      go_wp2_with fail
      refine I.mono ?_; rintro e w' ⟨rfl, rfl⟩
      go_wp2_with fail
      refine AR.mono ?_; rintro e w2 ⟨v', l', rfl, R2⟩
      go_wp2_with fail
      go_roundg (gk - 1)
      case measure => omega
      case rel => exact ⟨k + 1, v', l', by go_num, rfl, by omega, R2.out⟩
    · have hk : k = n := by omega
      subst hk
      have y1 : ¬ (k : Int) < (k : Int) := by omega
      go_wp2_with fail
      go_ret2
      exact ⟨⟨t0, rfl⟩, hA.out.2.2⟩
end Go.Proofs.Ythkpkohgefikeaa.puny
