/- Characters of tokens: strings.IndexRune, strings.ContainsRune at the signs of tokens; media.stands. -/
import Derived.Test.YtelofhplpeeplaaDoorMdDec
import Derived.Test.YtelofhplpeeplaaDoorShelf
import Derived.Laws.Runes
import Derived.Laws.Strings2
import Derived.WalkMore
import Derived.Deep.QuietTactic
import Derived.BigQuiet
import Derived.Deep.LoopGhost
import Derived.Lib.OthersKept
set_option linter.unusedSimpArgs false
set_option linter.unusedVariables false
namespace Go.Proofs.YtelofhplpeeplaaDoor.media
open Go.RowKit Go.Proofs.YtelofhplpeeplaaDoor.errs

def marks : ByteArray := T marksL
/-- The text that is gone through stands at a place. -/
def Itr (w : World) (k : Nat) (s : ByteArray) (pos : Nat) : Prop := w.heap[k]? = some (.stringIter s pos)
theorem marks_low : ∀ i : Fin 15, (marks.get! i.val).toNat < 128 := by decide +kernel
theorem marks_decode (pos : Nat) (h : pos < 15) : Utf8.decode marks pos = ((marks.get! pos).toNat, 1) := decode_low marks pos (marks_low ⟨pos, h⟩)
theorem below_drewN {B : Nat} {w w' : World} (h : Below B w w') (n : Nat) : Below B w (w'.drewN n) := by
  induction n with
  | zero => exact h
  | succ n ih => exact ih.drew
theorem index_none {l : List UInt8} {c : Nat} (hl : l.all (fun b => decide (b.toNat < 128)) = true) (h : 128 ≤ c) (h2 : c < 256) : Lib.indexByte l ((c : Int).toNat.toUInt8) = -1 := by
  have hg := Lib.indexByte_ge l ((c : Int).toNat.toUInt8)
  have hi := indexByte_in l ((c : Int).toNat.toUInt8)
  have hc : l.contains ((c : Int).toNat.toUInt8) = false := by
    rw [← Bool.not_eq_true, List.contains_iff_mem]
    intro hm
    have := of_decide_eq_true (List.all_eq_true.1 hl _ hm)
    simp at this
    omega
  rw [hc] at hi
  have := of_decide_eq_false hi
  omega

set_option maxRecDepth 100000 in
set_option maxHeartbeats 4000000 in
theorem indexRune_no (r : Int) (h : 128 ≤ r) (w : World) :
    Calls Tryd.prog 93 #[.string marks, .int .i32 r] w fun e w' => e = .returned (.int .i64 (-1)) ∧ Below w.heap.size w w' := by
  have x0 : (0 : Int) ≤ r := by omega
  have x1 : ¬ r < 128 := by omega
  by_cases h1 : r = 65533
  · subst h1
    go_enter Tryd.func93, Tryd.ntmps93
    go_wp2_with fail
    have hit0 : Aside (Itr (w.iter marks 0) w.heap.size marks 0) := World.iter_heap w marks 0
    have hbw : Aside (Below w.heap.size w (w.iter marks 0)) := (Below.refl _ _).alloc (Nat.le_refl _) _
    have LK : Aside (w.heap.size ≤ w.heap.size) := Nat.le_refl _
    generalize w.iter marks 0 = w2 at *
    generalize hkk : w.heap.size = k0 at *
    have HKK := Lib.hid hkk
    clear hkk
    go_loopg [] 15 (fun g wr => ∃ pos : Nat, g + pos = 15 ∧ Aside (Itr wr k0 marks pos ∧ Below k0 w wr))
    case atStart => exact ⟨0, rfl, hit0.out, hbw.out⟩
    case round =>
      obtain ⟨pos, hg, hA⟩ := hrel
      by_cases hlt : pos < 15
      · have hps : pos < marks.size := hlt
        have hnx := fun ty => Lib.run_next_any_at (P := Tryd.prog) wr k0 marks pos ty hA.out.1 hps
        have NX : Aside (Itr (wr.iterAt k0 marks (pos + (Utf8.decode marks pos).2)) k0 marks (pos + (Utf8.decode marks pos).2) ∧ Below k0 w (wr.iterAt k0 marks (pos + (Utf8.decode marks pos).2))) := ⟨Lib.iterAt_heap wr k0 marks pos _ hA.out.1, Lib.below_iterAt hA.out.2 (Nat.le_refl _) marks _⟩
        rw [marks_decode pos hlt] at hnx NX
        have hm := marks_low ⟨pos, hlt⟩
        have e3 : (((marks.get! pos).toNat : Int) == 65533) = false := beq_eq_false_iff_ne.2 (by have : (marks.get! pos).toNat < 128 := hm; omega)
        clear hm
        generalize (marks.get! pos).toNat = R at *
        generalize wr.iterAt k0 marks (pos + 1) = W at *
        go_wp2_with fail
        go_roundg (gk - 1)
        case measure => omega
        case rel => exact ⟨pos + 1, by omega, NX.out⟩
      · have hnx := fun ty => Lib.run_next_end_at (P := Tryd.prog) wr k0 marks pos ty hA.out.1 hlt
        go_wp2_with fail
        go_ret
        exact ⟨rfl, by rw [HKK.out]; exact hA.out.2⟩
  · have e1 : (r == 65533) = false := beq_eq_false_iff_ne.2 h1
    clear h1
    have VR := fun w => Tryd.utf8_ValidRune r w
    cases hv : Lib.validRune r with
    | false =>
      rw [hv] at VR
      clear hv
      go_enter Tryd.func93, Tryd.ntmps93
      go_wp2_with fail
      refine (VR _).mono ?_; rintro e w1 ⟨rfl, rfl⟩
      go_wp2_with fail
      go_ret
      exact ⟨rfl, Below.refl _ _⟩
    | true =>
      rw [hv] at VR
      have hv' : Utf8.valid r = true := by
        have : Lib.validRune r = Go.validRune r := rfl
        rw [Go.validRune_eq, ← this]; exact hv
      obtain ⟨s2, s4, sl⟩ := encode_facts r hv' h
      clear hv hv'
      go_enter Tryd.func93, Tryd.ntmps93
      go_wp2_with fail
      refine (VR _).mono ?_; rintro e w1 ⟨rfl, rfl⟩
      go_wp2_with fail
      have cv : ∀ w, (convert 21 9 (.int .i32 r)).run Tryd.prog w = .ok (.string (Utf8.encode r)) w := fun w => run_convert_int_string w _ _ _ _ (by kernel_rfl) Tryd.underlying9
      generalize Utf8.encode r = E at *
      obtain ⟨k, hk⟩ : ∃ k, E.size = k := ⟨_, rfl⟩
      rw [hk] at s2 s4
      rcases (show k = 2 ∨ k = 3 ∨ k = 4 by omega) with rfl | rfl | rfl
      · have q0 := sl (by omega)
        have hb : ∃ c : Nat, (128 ≤ c ∧ c < 256) ∧ ∀ w, (Instr.index 9 (.string E) (.int .i64 1)).run Tryd.prog w = .ok (.int .u8 c) w := by
          have e1 : E.size - 1 = 1 := by omega
          refine ⟨(E[1]'(by omega)).toNat, ⟨?_, (E[1]'(by omega)).toNat_lt⟩, fun w => ?_⟩
          · have := q0
            simpa [e1] using this
          · rw [run_index_string (h := Tryd.underlying9), dif_pos (by omega)]
            rfl
        obtain ⟨c, ⟨hc, hc2⟩, ix⟩ := hb
        have ix0 : ∀ w, (Instr.index 9 (.string marks) (.int .i64 1)).run Tryd.prog w = .ok (.int .u8 35) w := fun w => by kernel_rfl
        have sl2 : ∀ w, (Instr.slice 9 (.string marks) (some (.int .i64 2)) none none).run Tryd.prog w = .ok (.string (T (marksL.drop 2))) w := fun w => by kernel_rfl
        have IB : ∀ w, Calls Tryd.prog 95 #[.string (T (marksL.drop 2)), .int .u8 c] w fun e w' => e = .returned (.int .i64 (-1)) ∧ w' = w := fun w => by
          have := Tryd.strings_IndexByte (T (marksL.drop 2)) c w
          rwa [T_list, index_none (by decide +kernel) hc hc2] at this
        have ne : ((35 : Int) != (c : Int)) = true := by rw [bne_iff_ne]; omega
        have lz : (1 : Int) < (marks.size : Int) := by decide
        have HC := Lib.hid (And.intro hc hc2)
        clear sl q0 hc hc2
        generalize T (marksL.drop 2) = R at *
        go_step3
        go_wp2_with fail
        go_loopg [9, 10] 1 (fun g a b wr => a = .int .i64 1 ∧ g = 1 ∧ wr = w1)
        case atStart => exact ⟨rfl, rfl, rfl⟩
        case round =>
          obtain ⟨rfl, hg, rfl⟩ := hrel
          go_wp2_with fail
          go_step3
          go_wp2_with fail
          go_quiet (fail)
          have KQ : Aside (Below wr.heap.size wr (wr.drewN nq)) := below_drewN (Below.refl _ _) nq
          generalize wr.drewN nq = W at KQ ⊢
          go_wp2_with fail
          go_quiet ((go_at_call 95; exact Calls.quiet_of_same (IB _)))
          go_wp2_with fail
          rw [Exit.noGoto_ret]
          simp only [Exit.inBlock, Exit.then, Exit.noGoto_ret]
          go_ret
          exact ⟨rfl, below_drewN KQ.out nq⟩
      · have q0 := sl (by omega)
        have hb : ∃ c : Nat, (128 ≤ c ∧ c < 256) ∧ ∀ w, (Instr.index 9 (.string E) (.int .i64 2)).run Tryd.prog w = .ok (.int .u8 c) w := by
          have e1 : E.size - 1 = 2 := by omega
          refine ⟨(E[2]'(by omega)).toNat, ⟨?_, (E[2]'(by omega)).toNat_lt⟩, fun w => ?_⟩
          · have := q0
            simpa [e1] using this
          · rw [run_index_string (h := Tryd.underlying9), dif_pos (by omega)]
            rfl
        obtain ⟨c, ⟨hc, hc2⟩, ix⟩ := hb
        have ix0 : ∀ w, (Instr.index 9 (.string marks) (.int .i64 2)).run Tryd.prog w = .ok (.int .u8 36) w := fun w => by kernel_rfl
        have sl2 : ∀ w, (Instr.slice 9 (.string marks) (some (.int .i64 3)) none none).run Tryd.prog w = .ok (.string (T (marksL.drop 3))) w := fun w => by kernel_rfl
        have IB : ∀ w, Calls Tryd.prog 95 #[.string (T (marksL.drop 3)), .int .u8 c] w fun e w' => e = .returned (.int .i64 (-1)) ∧ w' = w := fun w => by
          have := Tryd.strings_IndexByte (T (marksL.drop 3)) c w
          rwa [T_list, index_none (by decide +kernel) hc hc2] at this
        have ne : ((36 : Int) != (c : Int)) = true := by rw [bne_iff_ne]; omega
        have lz : (2 : Int) < (marks.size : Int) := by decide
        have HC := Lib.hid (And.intro hc hc2)
        clear sl q0 hc hc2
        generalize T (marksL.drop 3) = R at *
        go_step3
        go_wp2_with fail
        go_loopg [9, 10] 1 (fun g a b wr => a = .int .i64 2 ∧ g = 1 ∧ wr = w1)
        case atStart => exact ⟨rfl, rfl, rfl⟩
        case round =>
          obtain ⟨rfl, hg, rfl⟩ := hrel
          go_wp2_with fail
          go_step3
          go_wp2_with fail
          go_quiet (fail)
          have KQ : Aside (Below wr.heap.size wr (wr.drewN nq)) := below_drewN (Below.refl _ _) nq
          generalize wr.drewN nq = W at KQ ⊢
          go_wp2_with fail
          go_quiet ((go_at_call 95; exact Calls.quiet_of_same (IB _)))
          go_wp2_with fail
          rw [Exit.noGoto_ret]
          simp only [Exit.inBlock, Exit.then, Exit.noGoto_ret]
          go_ret
          exact ⟨rfl, below_drewN KQ.out nq⟩
      · have q0 := sl (by omega)
        have hb : ∃ c : Nat, (128 ≤ c ∧ c < 256) ∧ ∀ w, (Instr.index 9 (.string E) (.int .i64 3)).run Tryd.prog w = .ok (.int .u8 c) w := by
          have e1 : E.size - 1 = 3 := by omega
          refine ⟨(E[3]'(by omega)).toNat, ⟨?_, (E[3]'(by omega)).toNat_lt⟩, fun w => ?_⟩
          · have := q0
            simpa [e1] using this
          · rw [run_index_string (h := Tryd.underlying9), dif_pos (by omega)]
            rfl
        obtain ⟨c, ⟨hc, hc2⟩, ix⟩ := hb
        have ix0 : ∀ w, (Instr.index 9 (.string marks) (.int .i64 3)).run Tryd.prog w = .ok (.int .u8 37) w := fun w => by kernel_rfl
        have sl2 : ∀ w, (Instr.slice 9 (.string marks) (some (.int .i64 4)) none none).run Tryd.prog w = .ok (.string (T (marksL.drop 4))) w := fun w => by kernel_rfl
        have IB : ∀ w, Calls Tryd.prog 95 #[.string (T (marksL.drop 4)), .int .u8 c] w fun e w' => e = .returned (.int .i64 (-1)) ∧ w' = w := fun w => by
          have := Tryd.strings_IndexByte (T (marksL.drop 4)) c w
          rwa [T_list, index_none (by decide +kernel) hc hc2] at this
        have ne : ((37 : Int) != (c : Int)) = true := by rw [bne_iff_ne]; omega
        have lz : (3 : Int) < (marks.size : Int) := by decide
        have HC := Lib.hid (And.intro hc hc2)
        clear sl q0 hc hc2
        generalize T (marksL.drop 4) = R at *
        go_step3
        go_wp2_with fail
        go_loopg [9, 10] 1 (fun g a b wr => a = .int .i64 3 ∧ g = 1 ∧ wr = w1)
        case atStart => exact ⟨rfl, rfl, rfl⟩
        case round =>
          obtain ⟨rfl, hg, rfl⟩ := hrel
          go_wp2_with fail
          go_step3
          go_wp2_with fail
          go_quiet (fail)
          have KQ : Aside (Below wr.heap.size wr (wr.drewN nq)) := below_drewN (Below.refl _ _) nq
          generalize wr.drewN nq = W at KQ ⊢
          go_wp2_with fail
          go_quiet ((go_at_call 95; exact Calls.quiet_of_same (IB _)))
          go_wp2_with fail
          rw [Exit.noGoto_ret]
          simp only [Exit.inBlock, Exit.then, Exit.noGoto_ret]
          go_ret
          exact ⟨rfl, below_drewN KQ.out nq⟩

set_option maxRecDepth 100000 in
set_option maxHeartbeats 1000000 in
theorem containsRune_any (c : Nat) (w : World) :
    Calls Tryd.prog 89 #[.string marks, .int .i32 c] w fun e w' => e = .returned (.bool (decide (c < 128) && marksL.contains (UInt8.ofNat c))) ∧ Below w.heap.size w w' := by
  by_cases h : c < 128
  · refine (Tryd.strings_ContainsRune_ascii marks c w (by omega) (by omega)).mono ?_
    rintro e w' ⟨rfl, rfl⟩
    refine ⟨?_, Below.refl _ _⟩
    rw [decide_eq_true h, Bool.true_and, ← indexByte_in]
    rfl
  · rw [decide_eq_false h, Bool.false_and]
    have C := indexRune_no c (by omega)
    clear h
    go_enter Tryd.func89, Tryd.ntmps89
    go_wp2_with fail
    refine (C _).mono ?_; rintro e w' ⟨rfl, hb⟩
    go_wp2_with fail
    go_ret
    exact ⟨rfl, hb⟩

set_option maxRecDepth 100000 in
set_option maxHeartbeats 1000000 in
theorem stands_any (c : Nat) (w : World) :
    Calls Tryd.prog 86 #[.int .i32 c] w fun e w' => e = .returned (.bool (inTokC c)) ∧ Below w.heap.size w w' := by
  have C := containsRune_any c
  have em : marks = ⟨#[33, 35, 36, 37, 38, 39, 42, 43, 45, 46, 94, 95, 96, 124, 126]⟩ := marks_text
  rw [em] at C
  unfold inTokC
  generalize (decide (c < 128) && marksL.contains (UInt8.ofNat c)) = q at *
  by_cases h1 : 97 ≤ c ∧ c ≤ 122
  · rw [decide_eq_true h1]
    have a1 : (97 : Int) ≤ (c : Int) := by omega
    have a2 : (c : Int) ≤ 122 := by omega
    clear h1 C
    go_enter Tryd.func86, Tryd.ntmps86
    go_wp2_with fail
    go_ret
    exact ⟨rfl, Below.refl _ _⟩
  · rw [decide_eq_false h1, Bool.false_or]
    have A1 : ((97 : Int) ≤ (c : Int) ∧ ¬ (c : Int) ≤ 122) ∨ ¬ (97 : Int) ≤ (c : Int) := by omega
    clear h1
    by_cases h2 : 65 ≤ c ∧ c ≤ 90
    · rw [decide_eq_true h2]
      have a1 : (65 : Int) ≤ (c : Int) := by omega
      have a2 : (c : Int) ≤ 90 := by omega
      clear h2 C
      rcases A1 with ⟨b1, b2⟩ | b1
      all_goals
        go_enter Tryd.func86, Tryd.ntmps86
        go_wp2_with fail
        go_ret
        exact ⟨rfl, Below.refl _ _⟩
    · rw [decide_eq_false h2, Bool.false_or]
      have A2 : ((65 : Int) ≤ (c : Int) ∧ ¬ (c : Int) ≤ 90) ∨ ¬ (65 : Int) ≤ (c : Int) := by omega
      clear h2
      by_cases h3 : 48 ≤ c ∧ c ≤ 57
      · rw [decide_eq_true h3]
        have a1 : (48 : Int) ≤ (c : Int) := by omega
        have a2 : (c : Int) ≤ 57 := by omega
        clear h3 C
        rcases A1 with ⟨b1, b2⟩ | b1 <;> rcases A2 with ⟨d1, d2⟩ | d1
        all_goals first
          | (exfalso; omega)
          | (go_enter Tryd.func86, Tryd.ntmps86
             go_wp2_with fail
             go_ret
             exact ⟨rfl, Below.refl _ _⟩)
      · rw [decide_eq_false h3, Bool.false_or]
        have A3 : ((48 : Int) ≤ (c : Int) ∧ ¬ (c : Int) ≤ 57) ∨ ¬ (48 : Int) ≤ (c : Int) := by omega
        clear h3
        rcases A1 with ⟨b1, b2⟩ | b1 <;> rcases A2 with ⟨d1, d2⟩ | d1 <;> rcases A3 with ⟨f1, f2⟩ | f1
        all_goals first
          | (exfalso; omega)
          | (go_enter Tryd.func86, Tryd.ntmps86
             go_wp2_with fail
             refine (C _).mono ?_; rintro e w' ⟨rfl, hb⟩
             go_wp2_with fail
             go_ret
             exact ⟨rfl, hb⟩)
end Go.Proofs.YtelofhplpeeplaaDoor.media
