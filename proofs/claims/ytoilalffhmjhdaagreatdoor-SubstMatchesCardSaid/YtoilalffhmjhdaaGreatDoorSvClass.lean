/- strings.ContainsAny at the three marks that no variable's name has in it: of any text. -/
import Derived.Test.YtoilalffhmjhdaaGreatDoorSbSmall
import Derived.Test.YtoilalffhmjhdaaGreatDoorChars
import Derived.Laws.Runes
import Derived.Laws.Strings2
import Derived.WalkMore
import Derived.Deep.QuietTactic
import Derived.BigQuiet
import Derived.Deep.LoopGhost
import Derived.Deep.Heap
import Derived.Test.YtoilalffhmjhdaaGreatDoorSbCheck
import Derived.Test.YtoilalffhmjhdaaGreatDoorSbClass
set_option linter.unusedSimpArgs false
set_option linter.unusedVariables false
namespace Go.Proofs.YtoilalffhmjhdaaGreatDoor.marks
open Go.RowKit Go.Proofs.YtoilalffhmjhdaaGreatDoor.errs Go.Proofs.YtoilalffhmjhdaaGreatDoor.utf Go.Proofs.YtoilalffhmjhdaaGreatDoor.chars

def Itr (wr : World) (k0 : Nat) (s : ByteArray) (pos : Nat) : Prop := wr.heap[k0]? = some (.stringIter s pos)
theorem Itr.lt {wr : World} {k0 pos : Nat} {s : ByteArray} (h : Itr wr k0 s pos) : k0 < wr.heap.size := (Array.getElem?_eq_some_iff.1 h).1
theorem Itr.below {wr w' : World} {k0 pos : Nat} {s : ByteArray} (h : Itr wr k0 s pos) (hb : Below wr.heap.size wr w') : Itr w' k0 s pos := (hb.block k0 h.lt).trans h
theorem Itr.at {wr : World} {k0 pos : Nat} {s : ByteArray} (h : Itr wr k0 s pos) (pos' : Nat) : Itr (wr.iterAt k0 s pos') k0 s pos' := Lib.iterAt_heap wr k0 s pos pos' h

def signs : ByteArray := ⟨#[36, 40, 41]⟩
/-- Is a byte a sign? -/
def sign (s : ByteArray) (i : Nat) : Bool := decide ((s.get! i).toNat = 36 ∨ (s.get! i).toNat = 40 ∨ (s.get! i).toNat = 41)
/-- The first sign's place, or the end. -/
structure LeadIs (s : ByteArray) (n : Nat) : Prop where
  le : n ≤ s.size
  free : ∀ j, j < n → sign s j = false
  hit : n < s.size → sign s n = true
def leadFrom (s : ByteArray) : Nat → Nat → Nat
  | 0, i => i
  | g + 1, i => if i < s.size then (if sign s i then i else leadFrom s g (i + 1)) else i
theorem leadFrom_is (s : ByteArray) : ∀ (g i : Nat), s.size ≤ i + g → i ≤ s.size → (∀ j, j < i → sign s j = false) → LeadIs s (leadFrom s g i)
  | 0, i, h1, h2, h3 => ⟨h2, h3, fun h => absurd h (by show ¬ i < s.size; omega)⟩
  | g + 1, i, h1, h2, h3 => by
    unfold leadFrom
    by_cases h : i < s.size
    · rw [if_pos h]
      cases hs : sign s i with
      | true => rw [if_pos rfl]; exact ⟨h2, h3, fun _ => hs⟩
      | false =>
        rw [if_neg (by decide)]
        refine leadFrom_is s g (i + 1) (by omega) (by omega) fun j hj => ?_
        rcases (show j < i ∨ j = i by omega) with q | rfl
        · exact h3 j q
        · exact hs
    · rw [if_neg h]; exact ⟨h2, h3, fun q => absurd q h⟩
def leadN (s : ByteArray) : Nat := leadFrom s s.size 0
theorem lead_is (s : ByteArray) : LeadIs s (leadN s) := leadFrom_is s s.size 0 (by omega) (Nat.zero_le _) (fun j hj => absurd hj (Nat.not_lt_zero _))

theorem decode_ascii (s : ByteArray) (i : Nat) (h : (s.get! i).toNat < 128) : Utf8.decode s i = ((s.get! i).toNat, 1) := by
  rw [Lib.decode_at]
  unfold Lib.decodeN
  rw [if_pos h]
theorem decode_big (s : ByteArray) (i : Nat) (h : ¬ (s.get! i).toNat < 128) : 128 ≤ (Utf8.decode s i).1 := by
  rw [Lib.decode_at]
  unfold Lib.decodeN
  rw [if_neg h]
  repeat' split
  all_goals simp
  all_goals omega
theorem decode_on (s : ByteArray) (i j : Nat) (h1 : i < j) (h2 : j < i + (Utf8.decode s i).2) : (s.get! j).toNat / 64 = 2 := by
  rw [Lib.decode_at] at h2
  unfold Lib.decodeN at h2
  generalize hb0 : (s.get! i).toNat = b0 at h2
  generalize hb1 : (s.get! (i + 1)).toNat = b1 at h2
  generalize hb2 : (s.get! (i + 2)).toNat = b2 at h2
  generalize hb3 : (s.get! (i + 3)).toNat = b3 at h2
  repeat' split at h2
  all_goals simp at h2
  all_goals first
    | omega
    | (rcases (show j = i + 1 ∨ j = i + 2 ∨ j = i + 3 by omega) with rfl | rfl | rfl <;> omega)
theorem sign_char (s : ByteArray) (i : Nat) : sign s i = decide ((Utf8.decode s i).1 = 36 ∨ (Utf8.decode s i).1 = 40 ∨ (Utf8.decode s i).1 = 41) := by
  unfold sign
  by_cases h : (s.get! i).toNat < 128
  · rw [decode_ascii s i h]
  · have := decode_big s i h
    rw [decide_eq_false (by omega), decide_eq_false (by omega)]
theorem LeadIs.skip {s : ByteArray} {n i : Nat} (h : LeadIs s n) (hi : i ≤ n) (hs : sign s i = false) (hlt : i < s.size) (hfit : i + (Utf8.decode s i).2 ≤ s.size) : i + (Utf8.decode s i).2 ≤ n := by
  rcases Nat.lt_or_ge n (i + (Utf8.decode s i).2) with q | q
  · exfalso
    have hn : n < s.size := by omega
    have h1 := h.hit hn
    rcases (show n = i ∨ i < n by omega) with rfl | h2
    · rw [hs] at h1; cases h1
    · have := decode_on s i n h2 q
      unfold sign at h1
      have := of_decide_eq_true h1
      omega
  · exact q
theorem LeadIs.at {s : ByteArray} {n i : Nat} (h : LeadIs s n) (hi : i ≤ n) (hs : sign s i = true) : n = i := by
  rcases Nat.lt_or_ge i n with q | q
  · rw [h.free i q] at hs; cases hs
  · omega

theorem byte_none (x : UInt8) (hc : 128 ≤ x.toNat) (l : List UInt8) (hl : ∀ b ∈ l, b.toNat < 128) : Lib.indexByte l (x.toNat : Int).toNat.toUInt8 = -1 := by
  have e : (x.toNat : Int).toNat.toUInt8 = x := by
    show UInt8.ofNat x.toNat = x
    rw [UInt8.ofNat_toNat]
  rw [e]
  induction l with
  | nil => rfl
  | cons b l ih =>
    unfold Lib.indexByte
    have hb := hl b (List.mem_cons_self ..)
    have hne : ¬ b = x := fun q => by rw [q] at hb; omega
    rw [ih fun b hb => hl b (List.mem_cons_of_mem _ hb)]
    simp [hne, Ne.symm hne]

set_option maxRecDepth 100000 in
set_option maxHeartbeats 4000000 in
theorem indexRune_no (r : Int) (h : 128 ≤ r) (w : World) :
    Calls Tryz.prog 92 #[.string signs, .int .i32 r] w fun e w' => e = .returned (.int .i64 (-1)) ∧ Below w.heap.size w w' := by
  have x0 : (0 : Int) ≤ r := by omega
  have x1 : ¬ r < 128 := by omega
  by_cases h1 : r = 65533
  · subst h1
    go_enter Tryz.func92, Tryz.ntmps92
    go_wp2_with fail
    have hit0 : Aside (Itr (w.iter signs 0) w.heap.size signs 0) := World.iter_heap w signs 0
    have hbw : Aside (Below w.heap.size w (w.iter signs 0)) := (Below.refl _ _).alloc (Nat.le_refl _) _
    have LK : Aside (w.heap.size ≤ w.heap.size) := Nat.le_refl _
    generalize w.iter signs 0 = w2 at *
    generalize hkk : w.heap.size = k0 at *
    have HKK := Lib.hid hkk
    clear hkk
    go_loopg [] 3 (fun g wr => ∃ pos : Nat, g + pos = 3 ∧ Aside (Itr wr k0 signs pos ∧ Below k0 w wr))
    case atStart => exact ⟨0, rfl, hit0.out, hbw.out⟩
    case round =>
      obtain ⟨pos, hg, hA⟩ := hrel
      by_cases hlt : pos < 3
      · have hps : pos < signs.size := hlt
        have hnx := fun ty => Lib.run_next_any_at (P := Tryz.prog) wr k0 signs pos ty hA.out.1 hps
        have NX : Aside (Itr (wr.iterAt k0 signs (pos + (Utf8.decode signs pos).2)) k0 signs (pos + (Utf8.decode signs pos).2) ∧ Below k0 w (wr.iterAt k0 signs (pos + (Utf8.decode signs pos).2))) := ⟨hA.out.1.at _, Lib.below_iterAt hA.out.2 (Nat.le_refl _) signs _⟩
        have hd : Utf8.decode signs pos = (if pos = 0 then 36 else if pos = 1 then 40 else 41, 1) := by
          rcases (show pos = 0 ∨ pos = 1 ∨ pos = 2 by omega) with rfl | rfl | rfl <;> kernel_rfl
        rw [hd] at hnx NX
        have e3 : (((if pos = 0 then 36 else if pos = 1 then 40 else 41 : Nat) : Int) == 65533) = false := by rcases (show pos = 0 ∨ pos = 1 ∨ pos = 2 by omega) with q | q | q <;> subst q <;> rfl
        generalize (if pos = 0 then 36 else if pos = 1 then 40 else 41 : Nat) = R at *
        generalize wr.iterAt k0 signs (pos + 1) = W at *
        clear hd
        go_wp2_with fail
        go_roundg (gk - 1)
        case measure => omega
        case rel => exact ⟨pos + 1, by omega, NX.out⟩
      · have hnx := fun ty => Lib.run_next_end_at (P := Tryz.prog) wr k0 signs pos ty hA.out.1 hlt
        go_wp2_with fail
        go_ret
        exact ⟨rfl, by rw [HKK.out]; exact hA.out.2⟩
  · have e1 : (r == 65533) = false := beq_eq_false_iff_ne.2 h1
    clear h1
    have VR := fun w => Tryz.utf8_ValidRune r w
    cases hv : Lib.validRune r with
    | false =>
      rw [hv] at VR
      clear hv
      go_enter Tryz.func92, Tryz.ntmps92
      go_wp2_with fail
      refine (VR _).mono ?_; rintro e w1 ⟨rfl, rfl⟩
      go_wp2_with fail
      go_ret
      exact ⟨rfl, Below.refl _ _⟩
    | true =>
      rw [hv] at VR
      have hv' : Utf8.valid r = true := by
        have : Lib.validRune r = Go.validRune r := rfl
        rw [Go.validRune_eq, ← this]; exact hv
      obtain ⟨s2, s4, sl⟩ := encode_facts r hv' h
      clear hv hv'
      go_enter Tryz.func92, Tryz.ntmps92
      go_wp2_with fail
      refine (VR _).mono ?_; rintro e w1 ⟨rfl, rfl⟩
      go_wp2_with fail
      have cv : ∀ w, (convert 21 9 (.int .i32 r)).run Tryz.prog w = .ok (.string (Utf8.encode r)) w := fun w => run_convert_int_string w _ _ _ _ (by kernel_rfl) Tryz.underlying9
      generalize Utf8.encode r = E at *
      obtain ⟨k, hk⟩ : ∃ k, E.size = k := ⟨_, rfl⟩
      rw [hk] at s2 s4
      have z0 : (2 : Int) ≤ (k : Int) := by omega
      have z1 : (k : Int) ≤ 4 := by omega
      by_cases h2 : k = 2
      · subst h2
        have q0 := sl (by omega)
        have hb : ∃ x : UInt8, 128 ≤ x.toNat ∧ ∀ w, (Instr.index 9 (.string E) (.int .i64 1)).run Tryz.prog w = .ok (.int .u8 x.toNat) w := by
          have e1 : E.size - 1 = 1 := by omega
          refine ⟨E[1]'(by omega), ?_, fun w => ?_⟩
          · have := q0
            simpa [e1] using this
          · rw [run_index_string (h := Tryz.underlying9), dif_pos (by omega)]
            rfl
        obtain ⟨x, hc, ix⟩ := hb
        have ix0 : ∀ w, (Instr.index 9 (.string signs) (.int .i64 1)).run Tryz.prog w = .ok (.int .u8 40) w := fun w => by kernel_rfl
        have sl2 : ∀ w, (Instr.slice 9 (.string signs) (some (.int .i64 2)) none none).run Tryz.prog w = .ok (.string ⟨#[41]⟩) w := fun w => by kernel_rfl
        have IB : ∀ w, Calls Tryz.prog 102 #[.string ⟨#[41]⟩, .int .u8 x.toNat] w fun e w' => e = .returned (.int .i64 (-1)) ∧ w' = w := fun w => by
          have := Tryz.strings_IndexByte ⟨#[41]⟩ x.toNat w
          rwa [byte_none x hc _ (by decide)] at this
        have ne : ((40 : Int) != (x.toNat : Int)) = true := by rw [bne_iff_ne]; omega
        generalize x.toNat = c at *
        have HC := Lib.hid hc
        clear sl q0 hc
        go_step3
        go_wp2_with fail
        go_loopg [9, 10] 1 (fun g a b wr => a = .int .i64 1 ∧ g = 1 ∧ wr = w1)
        case atStart => exact ⟨rfl, rfl, rfl⟩
        case round =>
          obtain ⟨rfl, hg, rfl⟩ := hrel
          go_wp2_with fail
          go_step3
          go_wp2_with fail
          go_quiet (fail)
          have KQ : Aside (Below wr.heap.size wr (wr.drewN nq)) := below_drewN (Below.refl _ _) nq
          generalize wr.drewN nq = W at KQ ⊢
          go_wp2_with fail
          go_quiet ((go_at_call 102; exact Calls.quiet_of_same (IB _)))
          go_wp2_with fail
          rw [Exit.noGoto_ret]
          simp only [Exit.inBlock, Exit.then, Exit.noGoto_ret]
          go_ret
          exact ⟨rfl, below_drewN KQ.out nq⟩
      by_cases h3 : k = 3
      · subst h3
        have q0 := sl (by omega)
        have hb : ∃ x : UInt8, 128 ≤ x.toNat ∧ ∀ w, (Instr.index 9 (.string E) (.int .i64 2)).run Tryz.prog w = .ok (.int .u8 x.toNat) w := by
          have e1 : E.size - 1 = 2 := by omega
          refine ⟨E[2]'(by omega), ?_, fun w => ?_⟩
          · have := q0
            simpa [e1] using this
          · rw [run_index_string (h := Tryz.underlying9), dif_pos (by omega)]
            rfl
        obtain ⟨x, hc, ix⟩ := hb
        have ix0 : ∀ w, (Instr.index 9 (.string signs) (.int .i64 2)).run Tryz.prog w = .ok (.int .u8 41) w := fun w => by kernel_rfl
        have sl2 : ∀ w, (Instr.slice 9 (.string signs) (some (.int .i64 3)) none none).run Tryz.prog w = .ok (.string ⟨#[]⟩) w := fun w => by kernel_rfl
        have IB : ∀ w, Calls Tryz.prog 102 #[.string ⟨#[]⟩, .int .u8 x.toNat] w fun e w' => e = .returned (.int .i64 (-1)) ∧ w' = w := fun w => by
          have := Tryz.strings_IndexByte ⟨#[]⟩ x.toNat w
          rwa [byte_none x hc _ (by decide)] at this
        have ne : ((41 : Int) != (x.toNat : Int)) = true := by rw [bne_iff_ne]; omega
        generalize x.toNat = c at *
        have HC := Lib.hid hc
        clear sl q0 hc
        go_step3
        go_wp2_with fail
        go_loopg [9, 10] 1 (fun g a b wr => a = .int .i64 2 ∧ g = 1 ∧ wr = w1)
        case atStart => exact ⟨rfl, rfl, rfl⟩
        case round =>
          obtain ⟨rfl, hg, rfl⟩ := hrel
          go_wp2_with fail
          go_step3
          go_wp2_with fail
          go_quiet (fail)
          have KQ : Aside (Below wr.heap.size wr (wr.drewN nq)) := below_drewN (Below.refl _ _) nq
          generalize wr.drewN nq = W at KQ ⊢
          go_wp2_with fail
          go_quiet ((go_at_call 102; exact Calls.quiet_of_same (IB _)))
          go_wp2_with fail
          rw [Exit.noGoto_ret]
          simp only [Exit.inBlock, Exit.then, Exit.noGoto_ret]
          go_ret
          exact ⟨rfl, below_drewN KQ.out nq⟩
      · have w0 : (4 : Int) ≤ (k : Int) := by omega
        have w2 : ¬ (k : Int) - 1 < (signs.size : Int) := by have : signs.size = 3 := rfl; omega
        have hk := Lib.hid hk
        clear sl h2 h3
        go_step3
        go_wp2_with fail
        go_loopg [9, 10] 1 (fun g a b wr => a = .int .i64 ((k : Int) - 1) ∧ wr = w1)
        case atStart => exact ⟨rfl, rfl⟩
        case round =>
          obtain ⟨rfl, rfl⟩ := hrel
          go_wp2_with fail
          rw [Exit.noGoto_ret]
          simp only [Exit.inBlock, Exit.then, Exit.noGoto_ret]
          go_ret
          exact ⟨rfl, Below.refl _ _⟩
/-- What IndexAny answers. -/
def idxOf (s : ByteArray) (n : Nat) : Int := if n < s.size then n else -1
def isSign (b : UInt8) : Bool := signs.data.toList.contains b
theorem isSign_iff (b : UInt8) : isSign b = decide (b.toNat = 36 ∨ b.toNat = 40 ∨ b.toNat = 41) := by
  have e : isSign b = (b == 36 || (b == 40 || b == 41)) := by
    unfold isSign signs
    simp [List.contains_cons]
    rfl
  rw [e, Bool.eq_iff_iff, Bool.or_eq_true, Bool.or_eq_true, beq_iff_eq, beq_iff_eq, beq_iff_eq, decide_eq_true_eq, ← UInt8.toNat_inj, ← UInt8.toNat_inj, ← UInt8.toNat_inj]
  exact Iff.rfl
theorem sign_at (s : ByteArray) (i : Nat) (h : i < s.size) : sign s i = isSign (s.data.toList[i]'(by rw [Array.length_toList]; exact h)) := by
  rw [isSign_iff]
  unfold sign
  show decide ((s.data[i]!).toNat = 36 ∨ (s.data[i]!).toNat = 40 ∨ (s.data[i]!).toNat = 41) = _
  rw [getElem!_pos s.data i h]
  rfl
theorem indexAny_spec : ∀ (l : List UInt8) (n : Nat), n ≤ l.length → (∀ j (h : j < l.length), j < n → isSign l[j] = false) → (∀ (h : n < l.length), isSign l[n] = true) → Lib.indexAny l signs.data.toList = if n < l.length then (n : Int) else -1
  | [], n, h, _, _ => by
    rw [if_neg (by simp)]
    rfl
  | b :: l, 0, _, _, h2 => by
    have this : signs.data.toList.contains b = true := h2 (by simp)
    rw [if_pos (by simp)]
    unfold Lib.indexAny
    rw [if_pos this]
    rfl
  | b :: l, n + 1, h, h1, h2 => by
    have hb : isSign b = false := h1 0 (by simp) (by omega)
    have ih := indexAny_spec l n (by simpa using h) (fun j hj hn => by have := h1 (j + 1) (by simpa using hj) (by omega); simpa using this) (fun hn => by have := h2 (by simpa using hn); simpa using this)
    unfold Lib.indexAny
    rw [if_neg (by show ¬ isSign b = true; rw [hb]; decide), ih]
    by_cases hn : n < l.length
    · rw [if_pos hn, if_neg (show ¬ (((n : Int) == -1) = true) by rw [beq_iff_eq]; omega), if_pos (show n + 1 < (b :: l).length by simpa using hn)]
      rfl
    · rw [if_neg hn, if_neg (show ¬ n + 1 < (b :: l).length by simpa using hn)]
      rfl
theorem indexAny_lead {s : ByteArray} {n : Nat} (h : LeadIs s n) : Lib.indexAny s.data.toList signs.data.toList = idxOf s n := by
  have hl : s.data.toList.length = s.size := Array.length_toList
  rw [indexAny_spec s.data.toList n (by rw [hl]; exact h.le) (fun j hj hn => by rw [← sign_at s j (by omega)]; exact h.free j hn) (fun hn => by rw [← sign_at s n (by omega)]; exact h.hit (by omega))]
  unfold idxOf
  rw [hl]

theorem indexRune_one (r : Int) (w : World) (h : r = 36 ∨ r = 40 ∨ r = 41) :
    Calls Tryz.prog 92 #[.string signs, .int .i32 r] w fun e w' => ∃ i : Int, e = .returned (.int .i64 i) ∧ 0 ≤ i ∧ Below w.heap.size w w' := by
  rcases h with rfl | rfl | rfl
  · exact (Tryz.strings_IndexRune_ascii signs 36 w (by decide) (by decide)).mono fun e w' ⟨h1, h2⟩ => ⟨0, h1, by decide, h2 ▸ Below.refl _ _⟩
  · exact (Tryz.strings_IndexRune_ascii signs 40 w (by decide) (by decide)).mono fun e w' ⟨h1, h2⟩ => ⟨1, h1, by decide, h2 ▸ Below.refl _ _⟩
  · exact (Tryz.strings_IndexRune_ascii signs 41 w (by decide) (by decide)).mono fun e w' ⟨h1, h2⟩ => ⟨2, h1, by decide, h2 ▸ Below.refl _ _⟩
theorem indexByte_none (c : UInt8) (h : isSign c = false) : Lib.indexByte signs.data.toList c = -1 := by
  have h0 : (36 : UInt8) ≠ c := fun e => by rw [← e] at h; revert h; decide
  have h1 : (40 : UInt8) ≠ c := fun e => by rw [← e] at h; revert h; decide
  have h2 : (41 : UInt8) ≠ c := fun e => by rw [← e] at h; revert h; decide
  simp [signs, Lib.indexByte, h0, h1, h2, Ne.symm h0, Ne.symm h1, Ne.symm h2]
theorem indexRune_none (r : Int) (w : World) (h0 : 0 ≤ r) (h1 : r ≠ 36) (h2 : r ≠ 40) (h3 : r ≠ 41) :
    Calls Tryz.prog 92 #[.string signs, .int .i32 r] w fun e w' => ∃ i : Int, e = .returned (.int .i64 i) ∧ i < 0 ∧ Below w.heap.size w w' := by
  by_cases h : r < 128
  · refine (Tryz.strings_IndexRune_ascii signs r w h0 h).mono fun e w' ⟨e1, e2⟩ => ⟨-1, ?_, by decide, e2 ▸ Below.refl _ _⟩
    rw [e1, indexByte_none _ (by
      rw [isSign_iff]
      refine decide_eq_false ?_
      have : (r.toNat.toUInt8).toNat = r.toNat := by
        show (UInt8.ofNat r.toNat).toNat = _
        rw [UInt8.toNat_ofNat']
        omega
      rw [this]
      omega)]
  · exact (indexRune_no r (by omega) w).mono fun e w' ⟨e1, e2⟩ => ⟨-1, e1, by decide, e2⟩

set_option maxRecDepth 100000 in
set_option maxHeartbeats 4000000 in
theorem indexAny_short (s : ByteArray) (n : Nat) (hL : LeadIs s n) (h8 : s.size ≤ 8) (w : World) :
    Calls Tryz.prog 84 #[.string s, .string signs] w fun e w' => e = .returned (.int .i64 (idxOf s n)) ∧ Below w.heap.size w w' := by
  have SU : ∀ w, Calls Tryz.prog 93 #[.int .i64 s.size] w fun e w' => e = .returned (.bool false) ∧ w' = w := fun w => by
    have := Tryz.strings_shouldUseASCIISet s.size w
    rwa [decide_eq_false (by omega)] at this
  obtain ⟨m, hm⟩ : ∃ m, Hid (s.size = m) := ⟨_, rfl⟩
  rw [hm.out] at h8 SU
  have nb : signs.toList.isEmpty = false := by kernel_rfl
  have n1 : ((signs.size : Int) == 1) = false := by kernel_rfl
  have HS := Lib.hid hm.out
  have hm' := hm.out
  obtain ⟨res, hres⟩ : ∃ res, Hid (idxOf s n = res) := ⟨_, rfl⟩
  rw [hres.out]
  go_enter Tryz.func84, Tryz.ntmps84
  go_wp2_with fail
  refine (SU _).mono ?_; rintro e w1 ⟨rfl, rfl⟩
  clear hm' nb n1
  go_wp2_with fail
  have hit0 : Aside (Itr (w1.iter s 0) w1.heap.size s 0) := World.iter_heap w1 s 0
  have hbw : Aside (Below w1.heap.size w1 (w1.iter s 0)) := (Below.refl _ _).alloc (Nat.le_refl _) _
  generalize w1.iter s 0 = w2 at *
  generalize hkk : w1.heap.size = k0 at *
  have HKK := Lib.hid hkk
  clear hkk
  go_loopg [] m (fun g wr => ∃ pos : Nat, pos ≤ m ∧ m ≤ pos + g ∧ pos ≤ n ∧ Aside (Itr wr k0 s pos ∧ Below k0 w1 wr))
  case atStart => exact ⟨0, by omega, by omega, by omega, hit0.out, hbw.out⟩
  case round =>
    clear hit0 hbw
    obtain ⟨pos, hp, hg, hpn, hA⟩ := hrel
    by_cases hlt : pos < m
    · obtain ⟨g, rfl⟩ : ∃ g, gk = g + 1 := ⟨gk - 1, by omega⟩
      have hps : pos < s.size := by rw [hm.out]; exact hlt
      have hnx := fun ty => Lib.run_next_any_at (P := Tryz.prog) wr k0 s pos ty hA.out.1 hps
      have hfit := decode_fits s pos hps
      obtain ⟨-, b2, b3⟩ := decode_bounds s pos
      have NX : Aside (Itr (wr.iterAt k0 s (pos + (Utf8.decode s pos).2)) k0 s (pos + (Utf8.decode s pos).2) ∧ Below k0 w1 (wr.iterAt k0 s (pos + (Utf8.decode s pos).2))) := ⟨hA.out.1.at _, Lib.below_iterAt hA.out.2 (Nat.le_refl _) s _⟩
      have SC := sign_char s pos
      cases hs : sign s pos with
      | true =>
        have hn := hL.at hpn hs
        subst hn
        have V : Aside (res = n) := by
          show res = _
          rw [← hres.out]
          unfold idxOf
          rw [if_pos hps]
        have hc : (Utf8.decode s n).1 = 36 ∨ (Utf8.decode s n).1 = 40 ∨ (Utf8.decode s n).1 = 41 := of_decide_eq_true (SC.symm.trans hs)
        have C := fun w => indexRune_one (Utf8.decode s n).1 w (by omega)
        clear SC hs hc hps hfit
        generalize ((Utf8.decode s n).1 : Int) = c at *
        generalize wr.iterAt k0 s (n + (Utf8.decode s n).2) = W at *
        go_wp2_with fail
        refine (C _).mono ?_; rintro e w3 ⟨i, rfl, h0, h3⟩
        have K3 : Aside (Below k0 w1 w3) := NX.out.2.trans (h3.mono (by have := NX.out.2.size; have := HKK.out; omega))
        clear h3
        go_wp2_with fail
        go_ret
        exact ⟨by rw [V.out]; rfl, by rw [HKK.out]; exact K3.out⟩
      | false =>
        have hn := hL.skip hpn hs hps hfit
        have hc : ¬ ((Utf8.decode s pos).1 = 36 ∨ (Utf8.decode s pos).1 = 40 ∨ (Utf8.decode s pos).1 = 41) := of_decide_eq_false (SC.symm.trans hs)
        have C := fun w => indexRune_none (Utf8.decode s pos).1 w (by omega) (by omega) (by omega) (by omega)
        clear SC hs hc hps
        rw [hm.out] at hfit
        generalize ((Utf8.decode s pos).1 : Int) = c at *
        generalize (Utf8.decode s pos).2 = K at *
        generalize wr.iterAt k0 s (pos + K) = W at *
        go_wp2_with fail
        refine (C _).mono ?_; rintro e w3 ⟨i, rfl, h0, h3⟩
        have K3 : Aside (Itr w3 k0 s (pos + K) ∧ Below k0 w1 w3) := ⟨NX.out.1.below h3, NX.out.2.trans (h3.mono (by have := NX.out.2.size; have := HKK.out; omega))⟩
        have hd : decide (0 ≤ i) = false := decide_eq_false (by omega)
        clear h3
        go_wp2_with fail
        go_roundg g
        case measure => omega
        case rel => exact ⟨pos + K, by omega, by omega, by omega, K3.out⟩
    · have hpm : ¬ pos < s.size := by rw [hm.out]; exact hlt
      have hnx := fun ty => Lib.run_next_end_at (P := Tryz.prog) wr k0 s pos ty hA.out.1 hpm
      have V : Aside (res = -1) := by
        show res = _
        rw [← hres.out]
        unfold idxOf
        rw [if_neg (by have := hm.out; omega)]
      go_wp2_with fail
      go_ret
      exact ⟨by rw [V.out]; rfl, by rw [HKK.out]; exact hA.out.2⟩
theorem indexAny_any (s : ByteArray) (n : Nat) (hL : LeadIs s n) (hs : s.size ≤ 1000000) (w : World) :
    Calls Tryz.prog 84 #[.string s, .string signs] w fun e w' => e = .returned (.int .i64 (idxOf s n)) ∧ Below w.heap.size w w' := by
  by_cases h8 : s.size ≤ 8
  · exact indexAny_short s n hL h8 w
  · refine (Tryz.strings_IndexAny_long (fun w => by kernel_rfl) s signs w (by decide) (by omega) (by omega) (by decide) (fun j b hj => ?_)).mono fun e w' ⟨h1, h2⟩ => ⟨by rw [h1, indexAny_lead hL], by rw [h2]; exact ((Below.refl _ _).alloc (Nat.le_refl _) _).alloc (by simp) _⟩
    have hl : j < 3 := (List.getElem?_eq_some_iff.1 hj).1
    rcases (show j = 0 ∨ j = 1 ∨ j = 2 by omega) with rfl | rfl | rfl
    · have : b = 36 := (Option.some.inj hj).symm
      rw [this]; decide
    · have : b = 40 := (Option.some.inj hj).symm
      rw [this]; decide
    · have : b = 41 := (Option.some.inj hj).symm
      rw [this]; decide


/-- Has a text one of the marks? -/
def hasMark (s : ByteArray) : Bool := decide (leadN s < s.size)
theorem hasMark_is (s : ByteArray) : hasMark s = (s.data.toList.contains 36 || (s.data.toList.contains 40 || s.data.toList.contains 41)) := by
  have hl : s.data.toList.length = s.size := Array.length_toList
  have L := lead_is s
  unfold hasMark
  by_cases h : leadN s < s.size
  · have hm := sign_at s (leadN s) h
    rw [L.hit h, isSign_iff] at hm
    have hm := of_decide_eq_true hm.symm
    have hmem : (s.data.toList[leadN s]'(by rw [hl]; exact h)) ∈ s.data.toList := List.getElem_mem _
    generalize (s.data.toList[leadN s]'(by rw [hl]; exact h)) = b at *
    rw [decide_eq_true h]
    have hb : b = 36 ∨ b = 40 ∨ b = 41 := by
      rcases hm with q | q | q
      · exact .inl (UInt8.toNat_inj.1 q)
      · exact .inr (.inl (UInt8.toNat_inj.1 q))
      · exact .inr (.inr (UInt8.toNat_inj.1 q))
    rcases hb with rfl | rfl | rfl <;> simp [hmem]
  · rw [decide_eq_false h]
    have no : ∀ c : UInt8, isSign c = true → s.data.toList.contains c = false := fun c hc => by
      cases q : s.data.toList.contains c with
      | false => rfl
      | true =>
        exfalso
        obtain ⟨j, hj, e⟩ := List.getElem_of_mem (List.contains_iff_mem.1 q)
        have h1 := sign_at s j (by omega)
        rw [L.free j (by omega)] at h1
        rw [e, hc] at h1
        cases h1
    rw [no 36 (by decide), no 40 (by decide), no 41 (by decide)]
    rfl
set_option maxRecDepth 100000 in
set_option maxHeartbeats 2000000 in
theorem containsAny_any (s : ByteArray) (hs : s.size ≤ 1000000) (w : World) :
    Calls Tryz.prog 65 #[.string s, .string signs] w fun e w' => e = .returned (.bool (hasMark s)) ∧ Below w.heap.size w w' := by
  have C := indexAny_any s (leadN s) (lead_is s) hs w
  have he : decide (0 ≤ idxOf s (leadN s)) = hasMark s := by
    unfold idxOf hasMark
    by_cases h : leadN s < s.size
    · rw [if_pos h, decide_eq_true h]; exact decide_eq_true (by omega)
    · rw [if_neg h, decide_eq_false h]; rfl
  generalize idxOf s (leadN s) = i at *
  generalize hasMark s = res at *
  subst he
  go_enter Tryz.func65, Tryz.ntmps65
  go_wp2_with fail
  refine C.mono ?_; rintro e w1 ⟨rfl, hb⟩
  go_wp2_with fail
  go_ret
  exact ⟨rfl, hb⟩
end Go.Proofs.YtoilalffhmjhdaaGreatDoor.marks
/- What is wrong with a variable: the document's answer as a function; the name's own test. -/
set_option linter.unusedSimpArgs false
set_option linter.unusedVariables false
namespace Go.Proofs.YtoilalffhmjhdaaGreatDoor.subst
open Go.RowKit Go.Proofs.YtoilalffhmjhdaaGreatDoor.errs Go.Proofs.YtoilalffhmjhdaaGreatDoor.rows Go.Proofs.YtoilalffhmjhdaaGreatDoor.utf Go.Proofs.YtoilalffhmjhdaaGreatDoor.glref Go.Proofs.YtoilalffhmjhdaaGreatDoor.gmath Go.Proofs.YtoilalffhmjhdaaGreatDoor.chars Go.Proofs.YtoilalffhmjhdaaGreatDoor.marks

/-- Can a text be a variable's name? -/
def nameOk (s : ByteArray) : Bool := !decide (s.size = 0) && (decide (s.size ≤ 64) && (!hasMark s && (firstBad s).isNone))
def badName (s : ByteArray) : Bool := !nameOk s || isOwn s.data.toList
theorem badName_is (s : ByteArray) : badName s = (decide (s.size = 0) || (decide (64 < s.size) || (isOwn s.data.toList || (!(firstBad s).isNone || (s.data.toList.contains 36 || (s.data.toList.contains 40 || s.data.toList.contains 41)))))) := by
  unfold badName nameOk
  rw [hasMark_is]
  have e : decide (64 < s.size) = !decide (s.size ≤ 64) := by
    by_cases h : s.size ≤ 64
    · rw [decide_eq_true h, decide_eq_false (by omega)]; rfl
    · rw [decide_eq_false h, decide_eq_true (by omega)]; rfl
  rw [e]
  generalize decide (s.size = 0) = b1
  generalize decide (s.size ≤ 64) = b2
  generalize isOwn s.data.toList = b3
  generalize (firstBad s).isNone = b4
  generalize s.data.toList.contains 36 = b5
  generalize s.data.toList.contains 40 = b6
  generalize s.data.toList.contains 41 = b7
  revert b1 b2 b3 b4 b5 b6 b7
  decide
/-- What is wrong with values, from one on: the error's number, its place, the number of the error that it came from. -/
def varFrom (i : Nat) : List ByteArray → Int × Int × Int
  | [] => (0, 0, 0)
  | s :: r => if s.data.toList.contains 36 then (11, (i : Int), 0) else if okP s then varFrom (i + 1) r else (11, (i : Int), (checkOf s).1)
def varOf (nm : ByteArray) (vs : List ByteArray) : Int × Int × Int := if badName nm then (30, 0, 0) else if 256 < vs.length then (15, 256, 0) else varFrom 0 vs
theorem drop_val (vs : List ByteArray) (k : Nat) (h : k < vs.length) : vs.drop k = vs.getD k ⟨#[]⟩ :: vs.drop (k + 1) := by
  rw [List.drop_eq_getElem_cons h, List.getD_eq_getElem?_getD, List.getElem?_eq_getElem h]
  rfl

set_option maxRecDepth 100000 in
set_option maxHeartbeats 2000000 in
theorem named_any (s : ByteArray) (hz : s.size ≤ 1000000) (w : World) (hT : Tabs w) :
    Calls Tryz.prog 38 #[.string s] w fun e w' => e = .returned (.bool (nameOk s)) ∧ Below w.heap.size w w' := by
  have CA : Calls Tryz.prog 65 #[.string s, .string ⟨#[36, 40, 41]⟩] w fun e w' => e = .returned (.bool (hasMark s)) ∧ Below w.heap.size w w' := containsAny_any s hz w
  have RA := Lib.hid fun (w' : World) (hb : Keeps w w') => right_any s hz w' (hT.below hb (Nat.le_refl _))
  unfold nameOk
  clear hT
  by_cases h0 : s.size = 0
  · obtain rfl : s = ⟨#[]⟩ := by
      obtain ⟨⟨l⟩⟩ := s
      have : l.length = 0 := h0
      rw [List.length_eq_zero_iff.1 this]
    rw [decide_eq_true h0]
    clear h0 CA
    go_enter Tryz.func38, Tryz.ntmps38
    go_wp2_with fail
    go_ret
    exact ⟨rfl, Below.refl _ _⟩
  · have e0 : s.toList.isEmpty = false := by
      rw [ByteArray.toList_eq]
      cases hl : s.data.toList with
      | nil => exact absurd (by have : s.data.toList.length = s.size := Array.length_toList; rw [hl] at this; exact this.symm) h0
      | cons a l => rfl
    rw [decide_eq_false h0]
    by_cases h1 : s.size ≤ 64
    · have x1 : (s.size : Int) ≤ 64 := by omega
      rw [decide_eq_true h1]
      clear h0 h1
      generalize hasMark s = m at *
      cases m with
      | true =>
        go_enter Tryz.func38, Tryz.ntmps38
        go_wp2_with fail
        refine CA.mono ?_; rintro e w1 ⟨rfl, hb⟩
        go_wp2_with fail
        go_ret
        exact ⟨rfl, hb⟩
      | false =>
        generalize (firstBad s).isNone = r at *
        go_enter Tryz.func38, Tryz.ntmps38
        go_wp2_with fail
        refine CA.mono ?_; rintro e w1 ⟨rfl, hb⟩
        have K1 := Lib.hid hb
        have R := RA.out w1 hb
        clear hb
        go_wp2_with fail
        refine R.mono ?_; rintro e w2 ⟨rfl, hb⟩
        have K2 := Lib.hid (Keeps.step K1.out hb)
        clear hb R
        go_wp2_with fail
        go_ret
        exact ⟨by simp, K2.out⟩
    · have x1 : ¬ (s.size : Int) ≤ 64 := by omega
      rw [decide_eq_false h1]
      clear h0 h1 CA
      go_enter Tryz.func38, Tryz.ntmps38
      go_wp2_with fail
      go_ret
      exact ⟨rfl, Below.refl _ _⟩
end Go.Proofs.YtoilalffhmjhdaaGreatDoor.subst
/- Does a byte stand in a text: the document's own test, and strings.Contains at a text of one byte. -/
set_option linter.unusedSimpArgs false
set_option linter.unusedVariables false
namespace Go.Proofs.YtoilalffhmjhdaaGreatDoor.subst
open Go.RowKit Go.Proofs.YtoilalffhmjhdaaGreatDoor.errs Go.Proofs.YtoilalffhmjhdaaGreatDoor.rows Go.Proofs.YtoilalffhmjhdaaGreatDoor.utf Go.Proofs.YtoilalffhmjhdaaGreatDoor.glref Go.Proofs.YtoilalffhmjhdaaGreatDoor.gmath Go.Proofs.YtoilalffhmjhdaaGreatDoor.chars Go.Proofs.YtoilalffhmjhdaaGreatDoor.marks

theorem bytes_drop {s : ByteArray} {i : Nat} (h : i < s.size) : s.data.toList.drop i = s.get! i :: s.data.toList.drop (i + 1) := by
  have h' : i < s.data.toList.length := by rw [Array.length_toList]; exact h
  rw [List.drop_eq_getElem_cons h']
  congr 1
  have h2 : i < s.data.size := h
  show s.data.toList[i] = s.data[i]!
  rw [getElem!_pos s.data i h2, Array.getElem_toList]
theorem bytes_end {s : ByteArray} {i : Nat} (h : s.size ≤ i) : s.data.toList.drop i = [] := List.drop_eq_nil_of_le (by rw [Array.length_toList]; exact h)
theorem eq_byte (a c : UInt8) : ((a.toNat : Int) == (c.toNat : Int)) = decide (a = c) := by
  by_cases e : a = c
  · rw [decide_eq_true e, e]; exact beq_iff_eq.2 rfl
  · rw [decide_eq_false e]
    exact beq_eq_false_iff_ne.2 fun q => e (UInt8.toNat_inj.1 (by omega))

set_option maxRecDepth 100000 in
set_option maxHeartbeats 4000000 in
/-- Does a byte stand in a text? -/
theorem rhas_any (s : ByteArray) (c : UInt8) (hs : s.size ≤ 1000000) (w : World) :
    Calls Tryz.prog 37 #[.string s, .int .u8 c.toNat] w fun e w' => e = .returned (.bool (s.data.toList.contains c)) ∧ w = w' := by
  obtain ⟨res, hres⟩ : ∃ res, Hid (s.data.toList.contains c = res) := ⟨_, rfl⟩
  rw [hres.out]
  obtain ⟨ci, hci⟩ : ∃ ci, Hid ((c.toNat : Int) = ci) := ⟨_, rfl⟩
  rw [hci.out]
  go_enter Tryz.func37, Tryz.ntmps37
  go_wp2_with fail
  go_loopg [5] s.size (fun g v wr => ∃ i : Nat, v = .int .i64 i ∧ g + i = s.size ∧ Hid ((s.data.toList.drop i).contains c = res) ∧ w = wr)
  case atStart => exact ⟨0, rfl, by omega, hres, rfl⟩
  case round =>
    clear hres
    obtain ⟨i, rfl, hg, hd, rfl⟩ := hrel
    by_cases hlt : i < s.size
    · obtain ⟨g, rfl⟩ : ∃ g, gk = g + 1 := ⟨gk - 1, by omega⟩
      have y0 : (i : Int) < (s.size : Int) := by omega
      have y1 : (0 : Int) ≤ (i : Int) := by omega
      have ix := index_at s i hlt
      have be := eq_byte (s.get! i) c
      rw [hci.out] at be
      have hd := hd.out
      rw [bytes_drop hlt] at hd
      by_cases e : s.get! i = c
      · rw [decide_eq_true e] at be
        have V : Aside (res = true) := by rw [← hd, e]; exact (List.contains_cons ..).trans (by rw [beq_self_eq_true, Bool.true_or])
        clear hd e
        generalize s.get! i = d at *
        go_wp2_with fail
        go_ret
        rw [V.out]
        exact ⟨rfl, rfl⟩
      · rw [decide_eq_false e] at be
        have V : Hid ((s.data.toList.drop (i + 1)).contains c = res) := by
          rw [List.contains_cons, show (c == s.get! i) = false from beq_eq_false_iff_ne.2 (fun q => e q.symm), Bool.false_or] at hd
          exact hd
        clear hd e
        generalize s.get! i = d at *
        go_wp2_with fail
        go_roundg g
        case measure => omega
        case rel => exact ⟨i + 1, rfl, by omega, V, rfl⟩
    · have y0 : ¬ (i : Int) < (s.size : Int) := by omega
      have V : Aside (res = false) := by
        have hd := hd.out
        rw [bytes_end (by omega)] at hd
        exact hd.symm
      clear hd
      go_wp2_with fail
      go_ret
      rw [V.out]
      exact ⟨rfl, rfl⟩

theorem indexByte_has : ∀ (l : List UInt8) (c : UInt8), -1 ≤ Lib.indexByte l c ∧ decide (0 ≤ Lib.indexByte l c) = l.contains c
  | [], _ => ⟨Int.le_refl (-1), rfl⟩
  | b :: l, c => by
    obtain ⟨h1, h2⟩ := indexByte_has l c
    unfold Lib.indexByte
    rw [List.contains_cons, ← h2]
    by_cases e : b = c
    · subst e
      rw [if_pos (beq_self_eq_true b), beq_self_eq_true, Bool.true_or]
      exact ⟨by decide, by decide⟩
    · rw [if_neg (by rw [beq_iff_eq]; exact e), show (c == b) = false from beq_eq_false_iff_ne.2 (fun q => e q.symm), Bool.false_or]
      by_cases q : Lib.indexByte l c = -1
      · rw [if_pos (beq_iff_eq.2 q), q]
        exact ⟨by decide, rfl⟩
      · rw [if_neg (by rw [beq_iff_eq]; exact q)]
        exact ⟨by omega, decide_eq_decide.2 (by omega)⟩
theorem contains_byte (l : List UInt8) (c : UInt8) : Lib.contains l [c] = l.contains c := by
  unfold Lib.contains
  rw [Lib.index_one, (indexByte_has l c).2]
/-- Has a text a dollar? -/
theorem dollar_any (s : ByteArray) (hs : s.size ≤ 1000000) (w : World) (hm : MaxL w) :
    Calls Tryz.prog 39 #[.string s, .string ⟨#[36]⟩] w fun e w' => e = .returned (.bool (s.data.toList.contains 36)) ∧ w' = w := by
  obtain ⟨m, hm⟩ := hm
  have := Tryz.strings_Contains s ⟨#[36]⟩ m w (by omega) hm
  rwa [show Lib.contains s.data.toList (⟨#[36]⟩ : ByteArray).data.toList = s.data.toList.contains 36 from contains_byte _ 36] at this
end Go.Proofs.YtoilalffhmjhdaaGreatDoor.subst
/- The document's own table of the variables that there are always. -/
set_option linter.unusedSimpArgs false
set_option linter.unusedVariables false
namespace Go.Proofs.YtoilalffhmjhdaaGreatDoor.subst
open Go.RowKit Go.Proofs.YtoilalffhmjhdaaGreatDoor.errs Go.Proofs.YtoilalffhmjhdaaGreatDoor.rows Go.Proofs.YtoilalffhmjhdaaGreatDoor.utf Go.Proofs.YtoilalffhmjhdaaGreatDoor.glref Go.Proofs.YtoilalffhmjhdaaGreatDoor.gmath Go.Proofs.YtoilalffhmjhdaaGreatDoor.chars Go.Proofs.YtoilalffhmjhdaaGreatDoor.marks

def rcSmall : List UInt8 := [97, 98, 99, 100, 101, 102, 103, 104, 105, 106, 107, 108, 109, 110, 111, 112, 113, 114, 115, 116, 117, 118, 119, 120, 121, 122]
def rcGreat : List UInt8 := [65, 66, 67, 68, 69, 70, 71, 72, 73, 74, 75, 76, 77, 78, 79, 80, 81, 82, 83, 84, 85, 86, 87, 88, 89, 90]
def rcDigit : List UInt8 := [48, 49, 50, 51, 52, 53, 54, 55, 56, 57]
def rcHex : List UInt8 := rcDigit ++ [97, 98, 99, 100, 101, 102, 65, 66, 67, 68, 69, 70]
def rcAmong : List (List UInt8) := [rcSmall ++ rcGreat, rcGreat, rcSmall, rcDigit, rcSmall ++ rcGreat ++ rcDigit, rcHex, rcGreat, rcSmall]
def rcAt (k : Nat) : List UInt8 := rcAmong.getD k []
/-- Which of the table a name is. -/
def rcIdx (nm : List UInt8) : Option Nat := clTab.findIdx? fun c => decide (c.name = nm)
def rcSize (o : Option Nat) : Int := match o with | none => 0 | some k => if 5 < k then 2 else 1
def rcChars (o : Option Nat) : ByteArray := match o with | none => ⟨#[]⟩ | some k => T (rcAt k)
theorem idx_from (nm : List UInt8) : ∀ (l : List Cl) (k : Nat), (∀ j, j < k → (l.getD j noCl).name ≠ nm) → k < l.length → (l.getD k noCl).name = nm → l.findIdx? (fun c => decide (c.name = nm)) = some k
  | [], _, _, h, _ => absurd h (by simp)
  | c :: l, 0, _, _, h => by
    have h : c.name = nm := h
    rw [List.findIdx?_cons, if_pos (decide_eq_true h)]
  | c :: l, k + 1, h1, h2, h3 => by
    have h0 : ¬ c.name = nm := h1 0 (by omega)
    rw [List.findIdx?_cons, if_neg (by rw [decide_eq_true_eq]; exact h0), idx_from nm l k (fun j hj => h1 (j + 1) (by omega)) (by simpa using h2) h3]
    rfl
theorem idx_none (nm : List UInt8) : ∀ (l : List Cl), (∀ j, j < l.length → (l.getD j noCl).name ≠ nm) → l.findIdx? (fun c => decide (c.name = nm)) = none
  | [], _ => rfl
  | c :: l, h => by
    have h0 : ¬ c.name = nm := h 0 (by simp)
    rw [List.findIdx?_cons, if_neg (by rw [decide_eq_true_eq]; exact h0), idx_none nm l (fun j hj => h (j + 1) (by simpa using hj))]
    rfl

theorem rcIdx_own (nm : List UInt8) : (rcIdx nm).isSome = isOwn nm := by
  unfold isOwn
  cases h : classOf nm with
  | none =>
    have hn : rcIdx nm = none := idx_none nm clTab fun j hj => by
      have hm := List.find?_eq_none.1 h (clTab.getD j noCl) (by rw [List.getD_eq_getElem?_getD, List.getElem?_eq_getElem hj]; exact List.getElem_mem _)
      simpa using hm
    rw [hn]
    rfl
  | some c =>
    cases hr : rcIdx nm with
    | some k => rfl
    | none =>
      exfalso
      have hm := List.mem_of_find?_eq_some h
      have hp := List.find?_some h
      have := List.findIdx?_eq_none_iff.1 hr c hm
      rw [this] at hp
      cases hp
theorem rcSize_own (nm : List UInt8) : decide (0 < rcSize (rcIdx nm)) = isOwn nm := by
  rw [← rcIdx_own]
  cases rcIdx nm with
  | none => rfl
  | some k =>
    show decide (0 < if 5 < k then (2 : Int) else 1) = true
    split <;> rfl
def rcNameV : Array Value := #[.string ⟨#[97, 108, 112, 104, 97]⟩, .string ⟨#[117, 112, 112, 101, 114]⟩, .string ⟨#[108, 111, 119, 101, 114]⟩, .string ⟨#[100, 105, 103, 105, 116]⟩, .string ⟨#[97, 108, 110, 117, 109]⟩, .string ⟨#[120, 100, 105, 103, 105, 116]⟩, .string ⟨#[114, 101, 103, 105, 111, 110]⟩, .string ⟨#[108, 97, 110, 103]⟩]
def rcAmongV : Array Value := #[.string ⟨#[97, 98, 99, 100, 101, 102, 103, 104, 105, 106, 107, 108, 109, 110, 111, 112, 113, 114, 115, 116, 117, 118, 119, 120, 121, 122, 65, 66, 67, 68, 69, 70, 71, 72, 73, 74, 75, 76, 77, 78, 79, 80, 81, 82, 83, 84, 85, 86, 87, 88, 89, 90]⟩, .string ⟨#[65, 66, 67, 68, 69, 70, 71, 72, 73, 74, 75, 76, 77, 78, 79, 80, 81, 82, 83, 84, 85, 86, 87, 88, 89, 90]⟩, .string ⟨#[97, 98, 99, 100, 101, 102, 103, 104, 105, 106, 107, 108, 109, 110, 111, 112, 113, 114, 115, 116, 117, 118, 119, 120, 121, 122]⟩, .string ⟨#[48, 49, 50, 51, 52, 53, 54, 55, 56, 57]⟩, .string ⟨#[97, 98, 99, 100, 101, 102, 103, 104, 105, 106, 107, 108, 109, 110, 111, 112, 113, 114, 115, 116, 117, 118, 119, 120, 121, 122, 65, 66, 67, 68, 69, 70, 71, 72, 73, 74, 75, 76, 77, 78, 79, 80, 81, 82, 83, 84, 85, 86, 87, 88, 89, 90, 48, 49, 50, 51, 52, 53, 54, 55, 56, 57]⟩, .string ⟨#[48, 49, 50, 51, 52, 53, 54, 55, 56, 57, 97, 98, 99, 100, 101, 102, 65, 66, 67, 68, 69, 70]⟩, .string ⟨#[65, 66, 67, 68, 69, 70, 71, 72, 73, 74, 75, 76, 77, 78, 79, 80, 81, 82, 83, 84, 85, 86, 87, 88, 89, 90]⟩, .string ⟨#[97, 98, 99, 100, 101, 102, 103, 104, 105, 106, 107, 108, 109, 110, 111, 112, 113, 114, 115, 116, 117, 118, 119, 120, 121, 122]⟩]
theorem rcName_at : ∀ k, k < 8 → rcNameV[k]? = some (.string (T (clAt k).name))
  | 0, _ | 1, _ | 2, _ | 3, _ | 4, _ | 5, _ | 6, _ | 7, _ => rfl
  | n + 8, h => by omega
theorem rcAmong_at : ∀ k, k < 8 → rcAmongV[k]? = some (.string (T (rcAt k)))
  | 0, _ | 1, _ | 2, _ | 3, _ | 4, _ | 5, _ | 6, _ | 7, _ => rfl
  | n + 8, h => by omega
theorem rc_world (w : World) : ∃ W, Hid ((w.alloc (.cells #[.string ⟨#[97, 108, 112, 104, 97]⟩, .string ⟨#[117, 112, 112, 101, 114]⟩, .string ⟨#[108, 111, 119, 101, 114]⟩, .string ⟨#[100, 105, 103, 105, 116]⟩, .string ⟨#[97, 108, 110, 117, 109]⟩, .string ⟨#[120, 100, 105, 103, 105, 116]⟩, .string ⟨#[114, 101, 103, 105, 111, 110]⟩, .string ⟨#[108, 97, 110, 103]⟩] 9)).alloc (.cells #[.string ⟨#[97, 98, 99, 100, 101, 102, 103, 104, 105, 106, 107, 108, 109, 110, 111, 112, 113, 114, 115, 116, 117, 118, 119, 120, 121, 122, 65, 66, 67, 68, 69, 70, 71, 72, 73, 74, 75, 76, 77, 78, 79, 80, 81, 82, 83, 84, 85, 86, 87, 88, 89, 90]⟩, .string ⟨#[65, 66, 67, 68, 69, 70, 71, 72, 73, 74, 75, 76, 77, 78, 79, 80, 81, 82, 83, 84, 85, 86, 87, 88, 89, 90]⟩, .string ⟨#[97, 98, 99, 100, 101, 102, 103, 104, 105, 106, 107, 108, 109, 110, 111, 112, 113, 114, 115, 116, 117, 118, 119, 120, 121, 122]⟩, .string ⟨#[48, 49, 50, 51, 52, 53, 54, 55, 56, 57]⟩, .string ⟨#[97, 98, 99, 100, 101, 102, 103, 104, 105, 106, 107, 108, 109, 110, 111, 112, 113, 114, 115, 116, 117, 118, 119, 120, 121, 122, 65, 66, 67, 68, 69, 70, 71, 72, 73, 74, 75, 76, 77, 78, 79, 80, 81, 82, 83, 84, 85, 86, 87, 88, 89, 90, 48, 49, 50, 51, 52, 53, 54, 55, 56, 57]⟩, .string ⟨#[48, 49, 50, 51, 52, 53, 54, 55, 56, 57, 97, 98, 99, 100, 101, 102, 65, 66, 67, 68, 69, 70]⟩, .string ⟨#[65, 66, 67, 68, 69, 70, 71, 72, 73, 74, 75, 76, 77, 78, 79, 80, 81, 82, 83, 84, 85, 86, 87, 88, 89, 90]⟩, .string ⟨#[97, 98, 99, 100, 101, 102, 103, 104, 105, 106, 107, 108, 109, 110, 111, 112, 113, 114, 115, 116, 117, 118, 119, 120, 121, 122]⟩] 9) = W) ∧ Hid ((∀ k, k < 8 → W.cell? ⟨w.heap.size, k, none⟩ = some (.string (T (clAt k).name))) ∧ (∀ k, k < 8 → W.cell? ⟨w.heap.size + 1, k, none⟩ = some (.string (T (rcAt k)))) ∧ Below w.heap.size w W) := by
  refine ⟨(w.alloc (.cells rcNameV 9)).alloc (.cells rcAmongV 9), rfl, fun k hk => ?_, fun k hk => ?_, ?_⟩
  · have h1 : (w.alloc (.cells rcNameV 9)).heap[w.heap.size]? = some (.cells rcNameV 9 (0, 0)) := heap_alloc_new w _
    have h2 := (Below.heap_alloc (w.alloc (.cells rcNameV 9)) (.cells rcAmongV 9) w.heap.size (by simp)).trans h1
    exact cell_of_heap h2 (rcName_at k hk)
  · have h1 := heap_alloc_new (w.alloc (.cells rcNameV 9)) (.cells rcAmongV 9)
    rw [World.size_alloc] at h1
    exact cell_of_heap h1 (rcAmong_at k hk)
  · exact ((Below.refl _ _).alloc (Nat.le_refl _) _).alloc (by simp) _

set_option maxRecDepth 100000 in
set_option maxHeartbeats 4000000 in
theorem rclass_any (nm : List UInt8) (w : World) :
    Calls Tryz.prog 19 #[.string (T nm)] w fun e w' => e = .returned (.tuple #[.string (rcChars (rcIdx nm)), .int .i64 (rcSize (rcIdx nm))]) ∧ Below w.heap.size w w' := by
  obtain ⟨W, HW, HF⟩ := rc_world w
  go_enter Tryz.func19, Tryz.ntmps19
  go_wp2_with fail
  rw [HW.out]
  clear HW
  go_loopg [6] 8 (fun g t wr => ∃ k : Nat, t = .int .i64 k ∧ g + k = 8 ∧ Hid (∀ j, j < k → (clTab.getD j noCl).name ≠ nm) ∧ W = wr)
  case atStart => exact ⟨0, rfl, rfl, (fun j hj => absurd hj (Nat.not_lt_zero _)), rfl⟩
  case round =>
    obtain ⟨k, rfl, hg, hA, rfl⟩ := hrel
    have y0 : (0 : Int) ≤ (k : Int) := by omega
    by_cases hlt : k < 8
    · have y1 : (k : Int) < 8 := by omega
      have c0 := HF.out.1 k hlt
      have c1 := HF.out.2.1 k hlt
      by_cases e : (clAt k).name = nm
      · have V : Hid (rcIdx nm = some k) := idx_from nm clTab k hA.out hlt e
        have e1 : ((T (clAt k).name).toList == (T nm).toList) = true := by rw [text_eq]; exact decide_eq_true e
        clear hA e
        have HV : Hid (rcChars (rcIdx nm) = T (rcAt k)) := by show _ = _; rw [V.out]; rfl
        generalize T (rcAt k) = x at *
        generalize (clAt k) = c at *
        by_cases h5 : 5 < k
        · have z0 : (5 : Int) < (k : Int) := by omega
          have HS : Hid (rcSize (rcIdx nm) = 2) := by show _ = _; rw [V.out]; exact if_pos h5
          clear h5
          go_wp2_with fail
          go_ret2
          exact ⟨by rw [HV.out, HS.out]; rfl, HF.out.2.2⟩
        · have z0 : (k : Int) ≤ 5 := by omega
          have HS : Hid (rcSize (rcIdx nm) = 1) := by show _ = _; rw [V.out]; exact if_neg h5
          clear h5
          go_wp2_with fail
          go_ret2
          exact ⟨by rw [HV.out, HS.out]; rfl, HF.out.2.2⟩
      · have e1 : ((T (clAt k).name).toList == (T nm).toList) = false := by rw [text_eq]; exact decide_eq_false e
        have NX : Hid (∀ j, j < k + 1 → (clTab.getD j noCl).name ≠ nm) := fun j hj => by
          rcases (show j < k ∨ j = k by omega) with h | rfl
          · exact hA.out j h
          · exact e
        clear hA e
        generalize (clAt k) = c at *
        go_wp2_with fail
        go_roundg (gk - 1)
        case measure => omega
        case rel => exact ⟨k + 1, by go_num, by omega, NX, rfl⟩
    · obtain rfl : k = 8 := by omega
      have V : Hid (rcIdx nm = none) := idx_none nm clTab hA.out
      clear hA
      go_wp2_with fail
      go_ret2
      exact ⟨by rw [V.out]; rfl, HF.out.2.2⟩
end Go.Proofs.YtoilalffhmjhdaaGreatDoor.subst
