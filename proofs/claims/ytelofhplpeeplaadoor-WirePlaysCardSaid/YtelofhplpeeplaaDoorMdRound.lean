/- A kind's text as it is written, and that it is read as it was. -/
import Derived.Test.YtelofhplpeeplaaDoorMdList
set_option linter.unusedSimpArgs false
set_option linter.unusedVariables false
namespace Go.Proofs.YtelofhplpeeplaaDoor.media
open Go.RowKit Go.Proofs.YtelofhplpeeplaaDoor.errs

def escB (c : UInt8) : List UInt8 := if c = 34 then [92, 34] else if c = 92 then [92, 92] else [c]
def esc (v : List UInt8) : List UInt8 := v.flatMap escB
/-- A value as it stands in a kind's text. -/
def wr (v : List UInt8) : List UInt8 := if isTokL v then v else 34 :: (esc v ++ [34])
def nameL (p : It) : List UInt8 := p.name.data.toList
def valL (p : It) : List UInt8 := p.value.data.toList
/-- A parameter, with blanks ahead of it, behind the semicolon, and behind it. -/
def parL (U : List UInt8 → List UInt8) (a b c : List UInt8) (p : It) : List UInt8 := a ++ 59 :: (b ++ (U (nameL p) ++ 61 :: (wr (valL p) ++ c)))
def parsL (U : List UInt8 → List UInt8) (a b c : List UInt8) (ps : List It) : List UInt8 := ps.flatMap (parL U a b c)
def kindL (U : List UInt8 → List UInt8) (pre a b c : List UInt8) (t u : List UInt8) (ps : List It) : List UInt8 := pre ++ (U t ++ 47 :: (U u ++ parsL U a b c ps))

def Blank (l : List UInt8) : Prop := ∀ x ∈ l, isBl x = true
/-- No byte of a token stands first. -/
def Ends (l : List UInt8) : Prop := ∀ x r, l = x :: r → inTok x = false
def Firm (l : List UInt8) : Prop := ∀ x r, l = x :: r → isBl x = false
theorem bl_tok : ∀ n : Fin 256, inTok (UInt8.ofNat n.val) = true → isBl (UInt8.ofNat n.val) = false := by decide +kernel
theorem tok_bl {c : UInt8} (h : inTok c = true) : isBl c = false := by
  have := bl_tok ⟨c.toNat, c.toNat_lt⟩ (by simpa using h)
  simpa using this
theorem bl_not {c : UInt8} (h : isBl c = true) : inTok c = false := by
  cases e : inTok c with
  | false => rfl
  | true => rw [tok_bl e] at h; cases h
theorem skip_firm {l : List UInt8} (h : Firm l) : skip l = l := by
  cases l with
  | nil => rfl
  | cons c l => unfold skip; rw [List.dropWhile_cons_of_neg (by rw [h c l rfl]; decide)]
theorem skip_blank : ∀ (a l : List UInt8), Blank a → skip (a ++ l) = skip l
  | [], l, _ => rfl
  | c :: a, l, h => by
    have := skip_blank a l (fun x hx => h x (List.mem_cons_of_mem _ hx))
    unfold skip at this ⊢
    rw [List.cons_append, List.dropWhile_cons_of_pos (h c List.mem_cons_self), this]
theorem span_ends : ∀ (x l : List UInt8), x.all inTok = true → Ends l → spanN inTok (x ++ l) = x.length
  | [], [], _, _ => rfl
  | [], c :: l, _, h => spanN_no (h c l rfl)
  | c :: x, l, ha, h => by
    rw [List.all_cons, Bool.and_eq_true] at ha
    rw [List.cons_append, spanN_yes ha.1, span_ends x l ha.2 h, List.length_cons]
theorem tokC_ends {x l : List UInt8} (hx : isTokL x = true) (h : Ends l) : tokC (x ++ l) = some (x, l) := by
  unfold isTokL at hx
  rw [Bool.and_eq_true, Bool.and_eq_true] at hx
  unfold tokC
  rw [span_ends x l hx.1 h, if_pos (okN_yes ⟨of_decide_eq_true hx.2.1, of_decide_eq_true hx.2.2⟩), List.take_left, List.drop_left]
theorem must_self (c : UInt8) (l : List UInt8) : must c (c :: l) = some l := by rw [must_cons, if_pos rfl]
theorem must_other {c d : UInt8} (l : List UInt8) (h : d ≠ c) : must c (d :: l) = none := by rw [must_cons, if_neg h]
theorem unq_esc : ∀ (v acc r : List UInt8), unq acc (esc v ++ 34 :: r) = some (acc ++ v, r)
  | [], acc, r => by
    show unq acc (34 :: r) = _
    unfold unq
    rw [if_pos rfl, List.append_nil]
  | c :: v, acc, r => by
    unfold esc
    rw [List.flatMap_cons, List.append_assoc]
    have ih := unq_esc v (acc ++ [c]) r
    unfold esc at ih
    rw [List.append_assoc] at ih
    unfold escB
    by_cases e1 : c = 34
    · rw [if_pos e1]
      subst e1
      show unq acc (92 :: 34 :: (v.flatMap escB ++ 34 :: r)) = _
      conv => lhs; unfold unq
      rw [if_neg (by decide), if_pos rfl]
      exact ih
    · rw [if_neg e1]
      by_cases e2 : c = 92
      · rw [if_pos e2]
        subst e2
        show unq acc (92 :: 92 :: (v.flatMap escB ++ 34 :: r)) = _
        conv => lhs; unfold unq
        rw [if_neg (by decide), if_pos rfl]
        exact ih
      · rw [if_neg e2]
        show unq acc (c :: (v.flatMap escB ++ 34 :: r)) = _
        conv => lhs; unfold unq
        rw [if_neg e1, if_neg e2]
        exact ih
theorem valC_wr (v r : List UInt8) (h : Ends r) : valC (wr v ++ r) = some (v, r) := by
  unfold wr
  by_cases ht : isTokL v = true
  · rw [if_pos ht]
    unfold valC
    have hm : must 34 (v ++ r) = none := by
      cases v with
      | nil => exact absurd ht (by decide)
      | cons d v =>
        refine must_other _ (fun e => ?_)
        unfold isTokL at ht
        rw [List.all_cons, e] at ht
        exact absurd ht (by rw [show inTok 34 = false by decide +kernel]; simp)
    rw [hm]
    exact tokC_ends ht h
  · rw [if_neg ht]
    unfold valC
    rw [List.cons_append, must_self]
    show unq [] ((esc v ++ [34]) ++ r) = _
    rw [List.append_assoc]
    exact unq_esc v [] r
theorem ends_nil : Ends [] := fun _ _ h => by cases h
theorem ends_cons {c : UInt8} (l : List UInt8) (h : inTok c = false) : Ends (c :: l) := fun x r e => by
  obtain ⟨rfl, -⟩ := List.cons.inj e; exact h
theorem ends_blank {a l : List UInt8} (ha : Blank a) (hl : Ends l) : Ends (a ++ l) := by
  cases a with
  | nil => exact hl
  | cons c a => exact ends_cons _ (bl_not (ha c List.mem_cons_self))
theorem parsL_ends {U : List UInt8 → List UInt8} {a b c : List UInt8} (ha : Blank a) (ps : List It) : Ends (parsL U a b c ps) := by
  cases ps with
  | nil => exact ends_nil
  | cons p ps =>
    unfold parsL parL
    rw [List.flatMap_cons, List.append_assoc]
    exact ends_blank ha (ends_cons _ (by decide +kernel))
theorem tok_firm {x l : List UInt8} (hx : isTokL x = true) : Firm (x ++ l) := by
  cases x with
  | nil => exact absurd hx (by decide)
  | cons d x =>
    intro y r e
    obtain ⟨rfl, -⟩ := List.cons.inj e
    unfold isTokL at hx
    rw [List.all_cons, Bool.and_eq_true, Bool.and_eq_true] at hx
    exact tok_bl hx.1.1

/-- A name that is read again as it is. -/
def Back (U : List UInt8 → List UInt8) (x : ByteArray) : Prop := isTokL (U x.data.toList) = true ∧ lowS (T (U x.data.toList)) = x
def Whole (U : List UInt8 → List UInt8) (p : It) : Prop := Back U p.name ∧ p.has = true
theorem parC_back {U : List UInt8 → List UInt8} {b c : List UInt8} (hb : Blank b) (p : It) (hp : Whole U p) (r : List UInt8) (hr : Ends (c ++ r)) :
    parC (59 :: (b ++ (U (nameL p) ++ 61 :: (wr (valL p) ++ c))) ++ r) = some (p, c ++ r) := by
  obtain ⟨⟨h1', h2⟩, h3⟩ := hp
  have h1 : isTokL (U (nameL p)) = true := h1'
  unfold parC
  rw [List.cons_append, must_self]
  simp only
  rw [List.append_assoc, skip_blank _ _ hb, List.append_assoc, skip_firm (tok_firm h1)]
  have e1 : tokC (U (nameL p) ++ (61 :: (wr (valL p) ++ c) ++ r)) = some (U (nameL p), 61 :: (wr (valL p) ++ c) ++ r) := tokC_ends h1 (ends_cons _ (by decide +kernel))
  rw [e1]
  simp only
  rw [List.cons_append, must_self]
  simp only
  rw [List.append_assoc, valC_wr _ _ hr]
  simp only
  rw [show lowS (T (U (nameL p))) = p.name from h2]
  obtain ⟨n, v, hs⟩ := p
  obtain rfl : hs = true := h3
  show some ((⟨n, T v.data.toList, true⟩ : It), c ++ r) = _
  rw [T_of]
theorem parsC_back {U : List UInt8 → List UInt8} {a b c : List UInt8} (ha : Blank a) (hb : Blank b) (hc : Blank c) :
    ∀ (ps : List It) (g : Nat), ps.length ≤ g → (∀ p ∈ ps, Whole U p) → parsC g (skip (parsL U a b c ps)) = some ps
  | [], 0, _, _ => rfl
  | [], g + 1, _, _ => rfl
  | p :: ps, 0, hg, _ => by rw [List.length_cons] at hg; omega
  | p :: ps, g + 1, hg, hw => by
    rw [List.length_cons] at hg
    have ih := parsC_back (U := U) ha hb hc ps g (by omega) (fun q hq => hw q (List.mem_cons_of_mem _ hq))
    have e0 : skip (parsL U a b c (p :: ps)) = 59 :: (b ++ (U (nameL p) ++ 61 :: (wr (valL p) ++ c))) ++ parsL U a b c ps := by
      unfold parsL
      rw [List.flatMap_cons]
      unfold parL
      rw [List.append_assoc, skip_blank _ _ ha]
      exact skip_firm (fun x r e => by obtain ⟨rfl, -⟩ := List.cons.inj e; decide)
    rw [e0]
    have e1 := parC_back (U := U) (b := b) (c := c) hb p (hw p List.mem_cons_self) (parsL U a b c ps) (ends_blank hc (parsL_ends ha ps))
    unfold parsC
    rw [if_neg (by rw [List.cons_append]; simp), e1]
    simp only
    rw [skip_blank _ _ hc, ih]
theorem parsL_length {U : List UInt8 → List UInt8} {a b c : List UInt8} : ∀ ps : List It, ps.length ≤ (parsL U a b c ps).length
  | [] => Nat.le_refl _
  | p :: ps => by
    have := parsL_length (U := U) (a := a) (b := b) (c := c) ps
    unfold parsL at this ⊢
    rw [List.flatMap_cons, List.length_append, List.length_cons]
    have h1 : 1 ≤ (parL U a b c p).length := by
      unfold parL
      rw [List.length_append, List.length_cons]
      omega
    omega
theorem readC_back {U : List UInt8 → List UInt8} {pre a b c : List UInt8} (hp : Blank pre) (ha : Blank a) (hb : Blank b) (hc : Blank c) {t u : ByteArray} {ps : List It} (ht : Back U t) (hu : Back U u) (hw : ∀ p ∈ ps, Whole U p) :
    readC (kindL U pre a b c t.data.toList u.data.toList ps) = some ((t, u), ps) := by
  have hl : ps.length ≤ (kindL U pre a b c t.data.toList u.data.toList ps).length := by
    have := parsL_length (U := U) (a := a) (b := b) (c := c) ps
    unfold kindL
    rw [List.length_append, List.length_append, List.length_cons, List.length_append]
    omega
  have hh : headC (kindL U pre a b c t.data.toList u.data.toList ps) = some ((t, u), parsL U a b c ps) := by
    unfold headC kindL
    rw [skip_blank _ _ hp, skip_firm (tok_firm ht.1), tokC_ends ht.1 (ends_cons _ (by decide +kernel))]
    simp only
    rw [must_self]
    simp only
    rw [tokC_ends hu.1 (parsL_ends ha ps)]
    simp only
    rw [ht.2, hu.2]
  unfold readC
  rw [hh]
  simp only
  rw [parsC_back ha hb hc ps _ hl hw]

/-- What was read is written with names that are read as they are. -/
theorem smB_idem : ∀ n : Fin 256, smB (smB (UInt8.ofNat n.val)) = smB (UInt8.ofNat n.val) := by decide +kernel
theorem smB_twice (c : UInt8) : smB (smB c) = smB c := by
  have := smB_idem ⟨c.toNat, c.toNat_lt⟩
  simpa using this
theorem smB_tokN : ∀ n : Fin 256, inTok (smB (UInt8.ofNat n.val)) = inTok (UInt8.ofNat n.val) := by decide +kernel
theorem smB_tok (c : UInt8) : inTok (smB c) = inTok c := by
  have := smB_tokN ⟨c.toNat, c.toNat_lt⟩
  simpa using this
def upB (c : UInt8) : UInt8 := if 97 ≤ c.toNat ∧ c.toNat ≤ 122 then UInt8.ofNat (c.toNat - 32) else c
theorem upB_tokN : ∀ n : Fin 256, inTok (upB (UInt8.ofNat n.val)) = inTok (UInt8.ofNat n.val) := by decide +kernel
theorem upB_tok (c : UInt8) : inTok (upB c) = inTok c := by
  have := upB_tokN ⟨c.toNat, c.toNat_lt⟩
  simpa using this
theorem upB_smN : ∀ n : Fin 256, smB (upB (smB (UInt8.ofNat n.val))) = smB (UInt8.ofNat n.val) := by decide +kernel
theorem upB_sm (c : UInt8) : smB (upB (smB c)) = smB c := by
  have := upB_smN ⟨c.toNat, c.toNat_lt⟩
  simpa using this
theorem isTokL_map {f : UInt8 → UInt8} (hf : ∀ c, inTok (f c) = inTok c) (l : List UInt8) : isTokL (l.map f) = isTokL l := by
  unfold isTokL
  rw [List.length_map, List.all_map]
  congr 2
  funext c
  exact hf c
/-- A small name. -/
def Low (x : ByteArray) : Prop := ∃ l, isTokL l = true ∧ x = lowS (T l)
theorem Low.tok {x : ByteArray} (h : Low x) : isTokL x.data.toList = true := by
  obtain ⟨l, h1, rfl⟩ := h
  show isTokL (l.map smB) = true
  rw [isTokL_map smB_tok]; exact h1
theorem Low.same {x : ByteArray} (h : Low x) : Back id x := by
  refine ⟨h.tok, ?_⟩
  obtain ⟨l, h1, rfl⟩ := h
  show T ((l.map smB).map smB) = T (l.map smB)
  rw [List.map_map]
  congr 2
  funext c
  exact smB_twice c
theorem Low.great {x : ByteArray} (h : Low x) : Back (List.map upB) x := by
  refine ⟨by rw [isTokL_map upB_tok]; exact h.tok, ?_⟩
  obtain ⟨l, h1, rfl⟩ := h
  show T (((l.map smB).map upB).map smB) = T (l.map smB)
  rw [List.map_map, List.map_map]
  congr 2
  funext c
  exact upB_sm c
theorem tokC_tok {l n r : List UInt8} (h : tokC l = some (n, r)) : isTokL n = true := by
  have h' := tokC_lt h
  obtain ⟨-, -, rfl, -, hk⟩ := h'
  have hn := of_decide_eq_true hk
  have hl := spanN_le inTok l
  unfold isTokL
  rw [span_all, List.length_take, Nat.min_eq_left hl, decide_eq_true hn.1, decide_eq_true hn.2]
  rfl
theorem parC_low {l r : List UInt8} {x : It} (h : parC l = some (x, r)) : Low x.name ∧ x.has = true := by
  unfold parC at h
  cases h1 : must 59 l with
  | none => rw [h1] at h; cases h
  | some r0 =>
    rw [h1] at h
    simp only at h
    cases h2 : tokC (skip r0) with
    | none => rw [h2] at h; cases h
    | some nr =>
      obtain ⟨n, r1⟩ := nr
      rw [h2] at h
      simp only at h
      cases h3 : must 61 r1 with
      | none => rw [h3] at h; cases h
      | some r2 =>
        rw [h3] at h
        simp only at h
        cases h4 : valC r2 with
        | none => rw [h4] at h; cases h
        | some vr =>
          obtain ⟨v, r3⟩ := vr
          rw [h4] at h
          obtain ⟨rfl, -⟩ := Prod.mk.inj (Option.some.inj h)
          exact ⟨⟨n, tokC_tok h2, rfl⟩, rfl⟩
theorem parsC_low : ∀ (g : Nat) (l : List UInt8) (ps : List It), parsC g l = some ps → ∀ p ∈ ps, Low p.name ∧ p.has = true
  | 0, l, ps, h, p, hp => by
    unfold parsC at h
    split at h
    · obtain rfl := Option.some.inj h; cases hp
    · cases h
  | g + 1, l, ps, h, p, hp => by
    unfold parsC at h
    split at h
    · obtain rfl := Option.some.inj h; cases hp
    · cases h1 : parC l with
      | none => rw [h1] at h; cases h
      | some xr =>
        obtain ⟨x, r⟩ := xr
        rw [h1] at h
        simp only at h
        cases h2 : parsC g (skip r) with
        | none => rw [h2] at h; cases h
        | some xs =>
          rw [h2] at h
          obtain rfl := Option.some.inj h
          rcases List.mem_cons.1 hp with rfl | hp
          · exact parC_low h1
          · exact parsC_low g (skip r) xs h2 p hp
theorem readC_low {l : List UInt8} {t u : ByteArray} {ps : List It} (h : readC l = some ((t, u), ps)) : Low t ∧ Low u ∧ ∀ p ∈ ps, Low p.name ∧ p.has = true := by
  unfold readC at h
  cases h0 : headC l with
  | none => rw [h0] at h; cases h
  | some xr =>
    obtain ⟨x, r⟩ := xr
    rw [h0] at h
    simp only at h
    cases h9 : parsC l.length (skip r) with
    | none => rw [h9] at h; cases h
    | some qs =>
      rw [h9] at h
      obtain ⟨rfl, rfl⟩ := Prod.mk.inj (Option.some.inj h)
      unfold headC at h0
      cases h1 : tokC (skip l) with
      | none => rw [h1] at h0; cases h0
      | some tr =>
        obtain ⟨t0, r0⟩ := tr
        rw [h1] at h0
        simp only at h0
        cases h2 : must 47 r0 with
        | none => rw [h2] at h0; cases h0
        | some r1 =>
          rw [h2] at h0
          simp only at h0
          cases h3 : tokC r1 with
          | none => rw [h3] at h0; cases h0
          | some ur =>
            obtain ⟨u0, r2⟩ := ur
            rw [h3] at h0
            simp only at h0
            obtain ⟨e, -⟩ := Prod.mk.inj (Option.some.inj h0)
            obtain ⟨rfl, rfl⟩ := Prod.mk.inj e
            exact ⟨⟨t0, tokC_tok h1, rfl⟩, ⟨u0, tokC_tok h3, rfl⟩, parsC_low _ _ _ h9⟩
theorem media_good {s : ByteArray} {t u : ByteArray} {ps : List It} (h : mediaOf s = .good t u ps) : s.size ≤ 1000 ∧ readC s.data.toList = some ((t, u), ps) ∧ ps.length ≤ 8 ∧ twin ps = false := by
  unfold mediaOf at h
  by_cases h1 : 1000 < s.size
  · rw [if_pos h1] at h; cases h
  · rw [if_neg h1] at h
    cases h2 : readC s.data.toList with
    | none => rw [h2] at h; cases h
    | some x =>
      obtain ⟨⟨t', u'⟩, ps'⟩ := x
      rw [h2] at h
      simp only at h
      by_cases h3 : 8 < ps'.length
      · rw [if_pos h3] at h; cases h
      · rw [if_neg h3] at h
        cases h4 : twin ps' with
        | true => rw [h4, if_pos rfl] at h; cases h
        | false =>
          rw [h4, if_neg (by decide)] at h
          simp only [Med.good.injEq] at h
          obtain ⟨rfl, rfl, rfl⟩ := h
          exact ⟨by omega, rfl, by omega, h4⟩
/-- What was read, written in any such way and not too long, is read as it was. -/
theorem media_back {s : ByteArray} {t u : ByteArray} {ps : List It} (h : mediaOf s = .good t u ps) {U : List UInt8 → List UInt8} (hU : ∀ x, Low x → Back U x) {pre a b c : List UInt8} (hp : Blank pre) (ha : Blank a) (hb : Blank b) (hc : Blank c)
    (hl : (kindL U pre a b c t.data.toList u.data.toList ps).length ≤ 1000) : mediaOf (T (kindL U pre a b c t.data.toList u.data.toList ps)) = .good t u ps := by
  obtain ⟨-, h1, h2, h3⟩ := media_good h
  obtain ⟨l1, l2, l3⟩ := readC_low h1
  have hr := readC_back (U := U) hp ha hb hc (hU t l1) (hU u l2) (ps := ps) (fun p hp => ⟨hU _ (l3 p hp).1, (l3 p hp).2⟩)
  unfold mediaOf
  rw [if_neg (by rw [T_size]; omega), T_list, hr]
  simp only
  rw [if_neg (by omega), h3, if_neg (by decide)]
end Go.Proofs.YtelofhplpeeplaaDoor.media
