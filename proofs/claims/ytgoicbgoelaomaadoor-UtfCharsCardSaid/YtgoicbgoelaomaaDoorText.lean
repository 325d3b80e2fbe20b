/- utf.Text: the bytes of characters in memory of its own, or a fault at the first number that is none. -/
import Derived.Test.YtgoicbgoelaomaaDoorValid
import Derived.Test.YtgoicbgoelaomaaDoorUtfMath
import Derived.Test.YtgoicbgoelaomaaDoorHalf
import Derived.Laws.AppendOwn
import Derived.Deep.LoopGhost
set_option linter.unusedSimpArgs false
set_option linter.unusedVariables false
namespace Go.Proofs.YtgoicbgoelaomaaDoor.text
open Go.RowKit Go.Proofs.YtgoicbgoelaomaaDoor.errs Go.Proofs.YtgoicbgoelaomaaDoor.utf Go.Proofs.YtgoicbgoelaomaaDoor.umath Go.Proofs.YtgoicbgoelaomaaDoor.half

theorem isChar_yes (n : Int) (w : World) (h : right n = true) :
    Calls Tryd.prog 35 #[.int .i64 n] w fun e w' => e = .returned (.bool true) ∧ w = w' := by
  obtain ⟨h0, h1, h2⟩ := (right_iff n).1 h
  clear h
  rcases (show n < 55296 ∨ 57344 ≤ n by omega) with h3 | h3
  all_goals clear h2
  all_goals go_enter Tryd.func35, Tryd.ntmps35
  all_goals go_wp2
  all_goals go_ret
  all_goals exact ⟨rfl, rfl⟩
theorem isChar_no (n : Int) (w : World) (h : right n = false) :
    Calls Tryd.prog 35 #[.int .i64 n] w fun e w' => e = .returned (.bool false) ∧ w = w' := by
  have hn : ¬ (0 ≤ n ∧ n < 1114112 ∧ ¬ (55296 ≤ n ∧ n < 57344)) := by rw [← right_iff, h]; decide
  clear h
  rcases (show n < 0 ∨ 1114112 ≤ n ∨ (55296 ≤ n ∧ n < 56320) ∨ (56320 ≤ n ∧ n < 57344) by omega) with h3 | h3 | ⟨h3, h4⟩ | ⟨h3, h4⟩
  all_goals clear hn
  all_goals go_enter Tryd.func35, Tryd.ntmps35
  all_goals go_wp2
  all_goals go_ret
  all_goals exact ⟨rfl, rfl⟩

/-- Numbers as cells. -/
def cellsOf (l : List Int) : List Value := l.map (Value.int .u8)
theorem cellsOf_append (a b : List Int) : cellsOf (a ++ b) = cellsOf a ++ cellsOf b := by simp [cellsOf]
theorem cellsOf_length (a : List Int) : (cellsOf a).length = a.length := by simp [cellsOf]
theorem rune_put (n : Int) (h : right n = true) : Lib.runeCells n = cellsOf (put n) := by
  obtain ⟨h0, h1, h2⟩ := (right_iff n).1 h
  unfold Lib.runeCells cellsOf put
  by_cases c1 : n < 128
  · rw [Lib.encodeRuneZ_one h0 (by omega), if_pos c1]
  rw [if_neg c1]
  by_cases c2 : n < 2048
  · rw [Lib.encodeRuneZ_two (by omega) (by omega), if_pos c2]
  rw [if_neg c2]
  by_cases c3 : n < 65536
  · rw [Lib.encodeRuneZ_three (by omega), if_pos c3]
  · rw [Lib.encodeRuneZ_four (by omega) (by omega), if_neg c3]
theorem put_length (n : Int) : 1 ≤ (put n).length ∧ (put n).length ≤ 4 := by
  unfold put
  repeat' split
  all_goals simp

/-- A slice that holds numbers. -/
def Nums (w : World) (v : Value) (xs : List Int) : Prop :=
  ∃ a cap, v = .slice a xs.length cap ∧ xs.length ≤ cap ∧ cap ≤ 9223372036854775807 ∧ (0 < xs.length → ∃ b off, a = some ⟨b, off, none⟩ ∧ ∀ j, j < xs.length → w.cell? ⟨b, off + j, none⟩ = some (.int .i64 (xs.getD j 0)))
theorem Nums.below {w w' : World} {v : Value} {xs : List Int} (h : Nums w v xs) (hb : Below w.heap.size w w') : Nums w' v xs := by
  obtain ⟨a, cap, rfl, h1, h2, h3⟩ := h
  refine ⟨a, cap, rfl, h1, h2, fun h => ?_⟩
  obtain ⟨b, off, rfl, hB⟩ := h3 h
  exact ⟨b, off, rfl, fun j hj => by rw [hb.cell (lt_of_cell (hB j hj))]; exact hB j hj⟩

/-- The bytes of so many of the numbers. -/
def upto (xs : List Int) (k : Nat) : List Int := (xs.take k).flatMap put
theorem upto_succ (xs : List Int) (k : Nat) (h : k < xs.length) : upto xs (k + 1) = upto xs k ++ put (xs.getD k 0) := by
  unfold upto
  rw [List.take_succ_eq_append_getElem h, List.flatMap_append]
  simp [List.getD_eq_getElem?_getD, h]
theorem upto_length (xs : List Int) (k : Nat) : (upto xs k).length ≤ 4 * k := by
  induction k with
  | zero => simp [upto]
  | succ k ih =>
    by_cases h : k < xs.length
    · rw [upto_succ xs k h, List.length_append]
      have := (put_length (xs.getD k 0)).2
      omega
    · have : upto xs (k + 1) = upto xs k := by
        unfold upto
        rw [List.take_of_length_le (by omega), List.take_of_length_le (by omega)]
      rw [this]; omega

/-- The first place of a number that is no character. -/
def badAt (xs : List Int) : Option Nat := (List.range xs.length).find? fun i => !right (xs.getD i 0)
theorem badAt_some {xs : List Int} {k : Nat} (h : k < xs.length) (hb : right (xs.getD k 0) = false) (ha : ∀ j, j < k → right (xs.getD j 0) = true) : badAt xs = some k := by
  unfold badAt
  rw [List.find?_range_eq_some]
  refine ⟨by simp only [hb]; rfl, by simpa using h, fun j hj => by simp only [ha j hj]; rfl⟩
theorem badAt_none {xs : List Int} (ha : ∀ j, j < xs.length → right (xs.getD j 0) = true) : badAt xs = none := by
  unfold badAt
  rw [List.find?_eq_none]
  intro j hj
  simp only [List.mem_range] at hj
  simp only [ha j hj]
  decide

/-- What utf.Text answers. -/
def TextOut (xs : List Int) (o : Option Nat) (w : World) (e : Ending) (w' : World) : Prop :=
  match o with
  | none => ∃ v, e = .returned (.tuple #[v, .nilIface]) ∧ w'.ownsRow w.heap.size 5 1 v (upto xs xs.length).length (cellsOf (upto xs xs.length)) ∧ Below w.heap.size w w'
  | some i => Failed w e w' 16 i fun v => .tuple #[.slice none 0 0, v]

theorem owns_cast {w : World} {B e s : Nat} {v : Value} {n n' : Nat} {l l' : List Value} (h : w.ownsRow B e s v n l) (hn : n = n') (hl : l = l') : w.ownsRow B e s v n' l' := by subst hn; subst hl; exact h

set_option maxHeartbeats 2000000 in
theorem text_any (xs : List Int) (v : Value) (w : World) (hv : Nums w v xs) (hz : xs.length ≤ 1000000) :
    Calls Tryd.prog 21 #[v] w fun e w' => TextOut xs (badAt xs) w e w' := by
  obtain ⟨a, cap, rfl, h1, h2, h3⟩ := hv
  obtain ⟨n, hn⟩ : ∃ n, Hid (xs.length = n) := ⟨_, rfl⟩
  rw [hn.out] at h1 h3 hz ⊢
  obtain ⟨res, hres⟩ : ∃ res, Hid (badAt xs = res) := ⟨_, rfl⟩
  rw [hres.out]
  go_enter Tryd.func21, Tryd.ntmps21
  go_wp2_with fail
  go_loopg [4, 9] n (fun g t s wr => ∃ (k : Nat) (t0 : Value), s = .int .i64 k ∧ t0 = t ∧ g + k = n ∧ Aside ((∀ j, j < k → right (xs.getD j 0) = true) ∧ wr.ownsRow w.heap.size 5 1 t (upto xs k).length (cellsOf (upto xs k)) ∧ Below w.heap.size w wr))
  case atStart => exact ⟨0, _, rfl, rfl, rfl, fun j hj => by omega, by simpa [upto, cellsOf] using World.ownsRow_nil w _ _ _, Below.refl _ _⟩
  case round =>
    obtain ⟨k, t0, rfl, rfl, hg, hA⟩ := hrel
    by_cases hlt : k < n
    · obtain ⟨b, off, rfl, hc⟩ := h3 (by omega)
      have y0 : (0 : Int) ≤ (k : Int) := by omega
      have y1 : (k : Int) < (n : Int) := by omega
      have c0 : wr.cell? ⟨b, off + k, none⟩ = some (.int .i64 (xs.getD k 0)) := by
        rw [hA.out.2.2.cell (lt_of_cell (hc k hlt))]; exact hc k hlt
      obtain ⟨x, hx⟩ : ∃ x, Hid (xs.getD k 0 = x) := ⟨_, rfl⟩
      rw [hx.out] at c0
      have HC : Aside (∀ j, j < n → w.cell? ⟨b, off + j, none⟩ = some (.int .i64 (xs.getD j 0))) := hc
      clear hc h3
      cases hr : right x with
      | false =>
        have I := isChar_no x wr hr
        have V : Aside (res = some k) := hres.out.symm.trans (badAt_some (by rw [hn.out]; exact hlt) (by rw [hx.out]; exact hr) hA.out.1)
        clear hr
        go_wp2_with (first | (go_at_call 35; refine I.mono ?_; rintro e w' ⟨rfl, rfl⟩) | (go_at_call 11; refine (fail_any _ _ _).mono ?_; rintro e w'' ⟨rfl, rfl⟩))
        go_ret2
        rw [V.out]
        exact failed_new w wr hA.out.2.2 16 k fun v => .tuple #[.slice none 0 0, v]
      | true =>
        have I := isChar_yes x wr hr
        obtain ⟨r0, r1, r2⟩ := (right_iff x).1 hr
        have hl := upto_length xs k
        have AR := Tryd.utf8_AppendRune_plain w.heap.size t0 (upto xs k).length (cellsOf (upto xs k)) x (by omega) (by omega) wr hA.out.2.1 (by omega) hA.out.2.2.size
        have Q : Aside (right x = true) := hr
        clear hr r2 hl
        have AR : Calls Tryd.prog 36 #[t0, .int .i32 x] wr fun e w' => ∃ v', e = .returned v' ∧ Aside (w'.ownsRow w.heap.size 5 1 v' ((upto xs k).length + (Lib.runeCells x).length) (cellsOf (upto xs k) ++ Lib.runeCells x) ∧ Below w.heap.size w w') :=
          AR.mono fun e w' ⟨v', h1, h2, o, h3⟩ => ⟨v', h1, h2, (hA.out.2.2.alloc hA.out.2.2.size o).grown h3 (by have := hA.out.2.2.size; simp; omega) (fun q hq => (hA.out.2.1.lt q hq).1)⟩
        go_wp2_with fail
        refine I.mono ?_; rintro e w' ⟨rfl, rfl⟩
        go_wp2_with fail
        refine AR.mono ?_; rintro e w2 ⟨v', rfl, R2⟩
        go_wp2_with fail
        go_roundg (gk - 1)
        case measure => omega
        case rel =>
          refine ⟨k + 1, v', by go_num, rfl, by omega, fun j hj => ?_, ?_, R2.out.2⟩
          · rcases (show j < k ∨ j = k by omega) with h | rfl
            · exact hA.out.1 j h
            · rw [hx.out]; exact Q.out
          · have hk : k < xs.length := by rw [hn.out]; exact hlt
            have e1 : upto xs (k + 1) = upto xs k ++ put x := by rw [upto_succ xs k hk, hx.out]
            refine owns_cast R2.out.1 ?_ ?_
            · rw [e1, List.length_append, rune_put x Q.out, cellsOf_length]
            · rw [e1, cellsOf_append, rune_put x Q.out]
    · have hk : k = n := by omega
      subst hk
      have V : Aside (res = none) := hres.out.symm.trans (badAt_none (by rw [hn.out]; exact hA.out.1))
      have y1 : ¬ (k : Int) < (k : Int) := by omega
      clear h3
      go_wp2_with fail
      go_ret2
      rw [V.out]
      exact ⟨t0, rfl, by rw [hn.out]; exact hA.out.2.1, hA.out.2.2⟩
end Go.Proofs.YtgoicbgoelaomaaDoor.text
