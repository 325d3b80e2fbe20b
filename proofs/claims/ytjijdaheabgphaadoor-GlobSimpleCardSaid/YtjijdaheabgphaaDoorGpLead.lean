/- glob.Lead: what a pattern begins with, ahead of its first sign. -/
import Derived.Test.YtjijdaheabgphaaDoorGpSimple
import Derived.Laws.Runes
import Derived.Laws.Strings2
import Derived.WalkMore
import Derived.Deep.QuietTactic
import Derived.BigQuiet
import Derived.Deep.LoopGhost
set_option linter.unusedSimpArgs false
set_option linter.unusedVariables false
namespace Go.Proofs.YtjijdaheabgphaaDoor.gparts
open Go.RowKit Go.Proofs.YtjijdaheabgphaaDoor.errs Go.Proofs.YtjijdaheabgphaaDoor.rows Go.Proofs.YtjijdaheabgphaaDoor.utf Go.Proofs.YtjijdaheabgphaaDoor.chars Go.Proofs.YtjijdaheabgphaaDoor.gmath Go.Proofs.YtjijdaheabgphaaDoor.glref Go.Proofs.YtjijdaheabgphaaDoor.lower

def signs : ByteArray := ⟨#[42, 63]⟩
/-- Is a byte a sign? -/
def sign (s : ByteArray) (i : Nat) : Bool := decide ((s.get! i).toNat = 42 ∨ (s.get! i).toNat = 63)
/-- The first sign's place, or the end. -/
structure LeadIs (s : ByteArray) (n : Nat) : Prop where
  le : n ≤ s.size
  free : ∀ j, j < n → sign s j = false
  hit : n < s.size → sign s n = true
def leadFrom (s : ByteArray) : Nat → Nat → Nat
  | 0, i => i
  | g + 1, i => if i < s.size then (if sign s i then i else leadFrom s g (i + 1)) else i
theorem leadFrom_is (s : ByteArray) : ∀ (g i : Nat), s.size ≤ i + g → i ≤ s.size → (∀ j, j < i → sign s j = false) → LeadIs s (leadFrom s g i)
  | 0, i, h1, h2, h3 => ⟨h2, h3, fun h => absurd h (by show ¬ i < s.size; omega)⟩
  | g + 1, i, h1, h2, h3 => by
    unfold leadFrom
    by_cases h : i < s.size
    · rw [if_pos h]
      cases hs : sign s i with
      | true => rw [if_pos rfl]; exact ⟨h2, h3, fun _ => hs⟩
      | false =>
        rw [if_neg (by decide)]
        refine leadFrom_is s g (i + 1) (by omega) (by omega) fun j hj => ?_
        rcases (show j < i ∨ j = i by omega) with q | rfl
        · exact h3 j q
        · exact hs
    · rw [if_neg h]; exact ⟨h2, h3, fun q => absurd q h⟩
def leadN (s : ByteArray) : Nat := leadFrom s s.size 0
theorem lead_is (s : ByteArray) : LeadIs s (leadN s) := leadFrom_is s s.size 0 (by omega) (Nat.zero_le _) (fun j hj => absurd hj (Nat.not_lt_zero _))
def leadOf (s : ByteArray) : ByteArray := s.extract 0 (leadN s)

theorem decode_ascii (s : ByteArray) (i : Nat) (h : (s.get! i).toNat < 128) : Utf8.decode s i = ((s.get! i).toNat, 1) := by
  rw [Lib.decode_at]
  unfold Lib.decodeN
  rw [if_pos h]
theorem decode_big (s : ByteArray) (i : Nat) (h : ¬ (s.get! i).toNat < 128) : 128 ≤ (Utf8.decode s i).1 := by
  rw [Lib.decode_at]
  unfold Lib.decodeN
  rw [if_neg h]
  repeat' split
  all_goals simp
  all_goals omega
theorem decode_on (s : ByteArray) (i j : Nat) (h1 : i < j) (h2 : j < i + (Utf8.decode s i).2) : (s.get! j).toNat / 64 = 2 := by
  rw [Lib.decode_at] at h2
  unfold Lib.decodeN at h2
  generalize hb0 : (s.get! i).toNat = b0 at h2
  generalize hb1 : (s.get! (i + 1)).toNat = b1 at h2
  generalize hb2 : (s.get! (i + 2)).toNat = b2 at h2
  generalize hb3 : (s.get! (i + 3)).toNat = b3 at h2
  repeat' split at h2
  all_goals simp at h2
  all_goals first
    | omega
    | (rcases (show j = i + 1 ∨ j = i + 2 ∨ j = i + 3 by omega) with rfl | rfl | rfl <;> omega)
theorem sign_char (s : ByteArray) (i : Nat) : sign s i = decide ((Utf8.decode s i).1 = 42 ∨ (Utf8.decode s i).1 = 63) := by
  unfold sign
  by_cases h : (s.get! i).toNat < 128
  · rw [decode_ascii s i h]
  · have := decode_big s i h
    rw [decide_eq_false (by omega), decide_eq_false (by omega)]
theorem LeadIs.skip {s : ByteArray} {n i : Nat} (h : LeadIs s n) (hi : i ≤ n) (hs : sign s i = false) (hlt : i < s.size) (hfit : i + (Utf8.decode s i).2 ≤ s.size) : i + (Utf8.decode s i).2 ≤ n := by
  rcases Nat.lt_or_ge n (i + (Utf8.decode s i).2) with q | q
  · exfalso
    have hn : n < s.size := by omega
    have h1 := h.hit hn
    rcases (show n = i ∨ i < n by omega) with rfl | h2
    · rw [hs] at h1; cases h1
    · have := decode_on s i n h2 q
      unfold sign at h1
      have := of_decide_eq_true h1
      omega
  · exact q
theorem LeadIs.at {s : ByteArray} {n i : Nat} (h : LeadIs s n) (hi : i ≤ n) (hs : sign s i = true) : n = i := by
  rcases Nat.lt_or_ge i n with q | q
  · rw [h.free i q] at hs; cases hs
  · omega

set_option maxRecDepth 100000 in
set_option maxHeartbeats 4000000 in
theorem indexRune_no (r : Int) (h : 128 ≤ r) (w : World) :
    Calls Tryd.prog 47 #[.string signs, .int .i32 r] w fun e w' => e = .returned (.int .i64 (-1)) ∧ Below w.heap.size w w' := by
  have x0 : (0 : Int) ≤ r := by omega
  have x1 : ¬ r < 128 := by omega
  by_cases h1 : r = 65533
  · subst h1
    go_enter Tryd.func47, Tryd.ntmps47
    go_wp2_with fail
    have hit0 : Aside (Itr (w.iter signs 0) w.heap.size signs 0) := World.iter_heap w signs 0
    have hbw : Aside (Below w.heap.size w (w.iter signs 0)) := (Below.refl _ _).alloc (Nat.le_refl _) _
    have LK : Aside (w.heap.size ≤ w.heap.size) := Nat.le_refl _
    generalize w.iter signs 0 = w2 at *
    generalize hkk : w.heap.size = k0 at *
    have HKK := Lib.hid hkk
    clear hkk
    go_loopg [] 2 (fun g wr => ∃ pos : Nat, g + pos = 2 ∧ Aside (Itr wr k0 signs pos ∧ Below k0 w wr))
    case atStart => exact ⟨0, rfl, hit0.out, hbw.out⟩
    case round =>
      obtain ⟨pos, hg, hA⟩ := hrel
      by_cases hlt : pos < 2
      · have hps : pos < signs.size := hlt
        have hnx := fun ty => Lib.run_next_any_at (P := Tryd.prog) wr k0 signs pos ty hA.out.1 hps
        have NX : Aside (Itr (wr.iterAt k0 signs (pos + (Utf8.decode signs pos).2)) k0 signs (pos + (Utf8.decode signs pos).2) ∧ Below k0 w (wr.iterAt k0 signs (pos + (Utf8.decode signs pos).2))) := ⟨hA.out.1.at _, Lib.below_iterAt hA.out.2 (Nat.le_refl _) signs _⟩
        have hd : Utf8.decode signs pos = (if pos = 0 then 42 else 63, 1) := by
          rcases (show pos = 0 ∨ pos = 1 by omega) with rfl | rfl <;> kernel_rfl
        rw [hd] at hnx NX
        have e3 : (((if pos = 0 then 42 else 63 : Nat) : Int) == 65533) = false := by split <;> rfl
        generalize (if pos = 0 then 42 else 63 : Nat) = R at *
        generalize wr.iterAt k0 signs (pos + 1) = W at *
        clear hd
        go_wp2_with fail
        go_roundg (gk - 1)
        case measure => omega
        case rel => exact ⟨pos + 1, by omega, NX.out⟩
      · have hnx := fun ty => Lib.run_next_end_at (P := Tryd.prog) wr k0 signs pos ty hA.out.1 hlt
        go_wp2_with fail
        go_ret
        exact ⟨rfl, by rw [HKK.out]; exact hA.out.2⟩
  · have e1 : (r == 65533) = false := beq_eq_false_iff_ne.2 h1
    clear h1
    have VR := fun w => Tryd.utf8_ValidRune r w
    cases hv : Lib.validRune r with
    | false =>
      rw [hv] at VR
      clear hv
      go_enter Tryd.func47, Tryd.ntmps47
      go_wp2_with fail
      refine (VR _).mono ?_; rintro e w1 ⟨rfl, rfl⟩
      go_wp2_with fail
      go_ret
      exact ⟨rfl, Below.refl _ _⟩
    | true =>
      rw [hv] at VR
      have hv' : Utf8.valid r = true := by
        have : Lib.validRune r = Go.validRune r := rfl
        rw [Go.validRune_eq, ← this]; exact hv
      obtain ⟨s2, s4, sl⟩ := encode_facts r hv' h
      clear hv hv'
      go_enter Tryd.func47, Tryd.ntmps47
      go_wp2_with fail
      refine (VR _).mono ?_; rintro e w1 ⟨rfl, rfl⟩
      go_wp2_with fail
      have cv : ∀ w, (convert 21 9 (.int .i32 r)).run Tryd.prog w = .ok (.string (Utf8.encode r)) w := fun w => run_convert_int_string w _ _ _ _ (by kernel_rfl) Tryd.underlying9
      generalize Utf8.encode r = E at *
      obtain ⟨k, hk⟩ : ∃ k, E.size = k := ⟨_, rfl⟩
      rw [hk] at s2 s4
      have z0 : (2 : Int) ≤ (k : Int) := by omega
      have z1 : (k : Int) ≤ 4 := by omega
      by_cases h2 : k = 2
      · subst h2
        have q0 := sl (by omega)
        have hb : ∃ c : Nat, 128 ≤ c ∧ ∀ w, (Instr.index 9 (.string E) (.int .i64 1)).run Tryd.prog w = .ok (.int .u8 c) w := by
          have e1 : E.size - 1 = 1 := by omega
          refine ⟨(E[1]'(by omega)).toNat, ?_, fun w => ?_⟩
          · have := q0
            simpa [e1] using this
          · rw [run_index_string (h := Tryd.underlying9), dif_pos (by omega)]
            rfl
        obtain ⟨c, hc, ix⟩ := hb
        have ix0 : ∀ w, (Instr.index 9 (.string signs) (.int .i64 1)).run Tryd.prog w = .ok (.int .u8 63) w := fun w => by kernel_rfl
        have sl2 : ∀ w, (Instr.slice 9 (.string signs) (some (.int .i64 2)) none none).run Tryd.prog w = .ok (.string ⟨#[]⟩) w := fun w => by kernel_rfl
        have IB : ∀ w, Calls Tryd.prog 61 #[.string ⟨#[]⟩, .int .u8 c] w fun e w' => e = .returned (.int .i64 (-1)) ∧ w' = w := fun w => Tryd.strings_IndexByte ⟨#[]⟩ c w
        have ne : ((63 : Int) != (c : Int)) = true := by rw [bne_iff_ne]; omega
        have HC := Lib.hid hc
        clear sl q0 hc
        go_step3
        go_wp2_with fail
        go_loopg [9, 10] 1 (fun g a b wr => a = .int .i64 1 ∧ g = 1 ∧ wr = w1)
        case atStart => exact ⟨rfl, rfl, rfl⟩
        case round =>
          obtain ⟨rfl, hg, rfl⟩ := hrel
          go_wp2_with fail
          go_step3
          go_wp2_with fail
          go_quiet (fail)
          have KQ : Aside (Below wr.heap.size wr (wr.drewN nq)) := below_drewN (Below.refl _ _) nq
          generalize wr.drewN nq = W at KQ ⊢
          go_wp2_with fail
          go_quiet ((go_at_call 61; exact Calls.quiet_of_same (IB _)))
          go_wp2_with fail
          rw [Exit.noGoto_ret]
          simp only [Exit.inBlock, Exit.then, Exit.noGoto_ret]
          go_ret
          exact ⟨rfl, below_drewN KQ.out nq⟩
      · have w0 : (3 : Int) ≤ (k : Int) := by omega
        have w2 : ¬ (k : Int) - 1 < (signs.size : Int) := by have : signs.size = 2 := rfl; omega
        have hk := Lib.hid hk
        clear sl h2
        go_step3
        go_wp2_with fail
        go_loopg [9, 10] 1 (fun g a b wr => a = .int .i64 ((k : Int) - 1) ∧ wr = w1)
        case atStart => exact ⟨rfl, rfl⟩
        case round =>
          obtain ⟨rfl, rfl⟩ := hrel
          go_wp2_with fail
          rw [Exit.noGoto_ret]
          simp only [Exit.inBlock, Exit.then, Exit.noGoto_ret]
          go_ret
          exact ⟨rfl, Below.refl _ _⟩
end Go.Proofs.YtjijdaheabgphaaDoor.gparts
