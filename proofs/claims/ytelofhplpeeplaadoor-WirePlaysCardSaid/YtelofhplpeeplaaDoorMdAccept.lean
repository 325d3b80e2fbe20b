/- media.Accept and the document's. -/
import Derived.Test.YtelofhplpeeplaaDoorMdJson
import Derived.Test.YtelofhplpeeplaaDoorMdRparse
set_option linter.unusedSimpArgs false
set_option linter.unusedVariables false
namespace Go.Proofs.YtelofhplpeeplaaDoor.media
open Go.RowKit Go.Proofs.YtelofhplpeeplaaDoor.errs

theorem unq_len : ∀ (g : Nat) (l acc v r : List UInt8), l.length ≤ g → unq acc l = some (v, r) → v.length ≤ acc.length + l.length
  | g, [], acc, v, r, _, h => by unfold unq at h; cases h
  | 0, c :: l, acc, v, r, hg, h => by rw [List.length_cons] at hg; omega
  | g + 1, c :: l, acc, v, r, hg, h => by
    rw [List.length_cons] at hg
    unfold unq at h
    by_cases e1 : c = 34
    · rw [if_pos e1] at h
      obtain ⟨rfl, -⟩ := Prod.mk.inj (Option.some.inj h)
      rw [List.length_cons]; omega
    · rw [if_neg e1] at h
      by_cases e2 : c = 92
      · rw [if_pos e2] at h
        cases l with
        | nil => cases h
        | cons d l' =>
          rw [List.length_cons] at hg
          have := unq_len g l' _ v r (by omega) h
          rw [List.length_append] at this
          rw [List.length_cons, List.length_cons]
          simp at this
          omega
      · rw [if_neg e2] at h
        have := unq_len g l _ v r (by omega) h
        rw [List.length_append] at this
        rw [List.length_cons]
        simp at this
        omega
theorem valC_len {l v r : List UInt8} (h : valC l = some (v, r)) : v.length ≤ l.length := by
  unfold valC at h
  cases hm : must 34 l with
  | some r' =>
    rw [hm] at h
    have := unq_len r'.length r' [] v r (Nat.le_refl _) h
    rw [must_some hm, List.length_cons]
    simp at this
    omega
  | none =>
    rw [hm] at h
    have := (tokC_lt h).2.1; omega
theorem parC_len {l r : List UInt8} {x : It} (h : parC l = some (x, r)) : x.value.size ≤ l.length := by
  unfold parC at h
  cases h1 : must 59 l with
  | none => rw [h1] at h; cases h
  | some r0 =>
    rw [h1] at h
    simp only at h
    cases h2 : tokC (skip r0) with
    | none => rw [h2] at h; cases h
    | some nr =>
      obtain ⟨n, r1⟩ := nr
      rw [h2] at h
      simp only at h
      cases h3 : must 61 r1 with
      | none => rw [h3] at h; cases h
      | some r2 =>
        rw [h3] at h
        simp only at h
        cases h4 : valC r2 with
        | none => rw [h4] at h; cases h
        | some vr =>
          obtain ⟨v, r3⟩ := vr
          rw [h4] at h
          obtain ⟨rfl, -⟩ := Prod.mk.inj (Option.some.inj h)
          have a1 := valC_len h4
          have a2 := (tokC_lt h2).1
          have a3 := skip_le r0
          rw [must_some h3, List.length_cons] at a2
          show v.length ≤ _
          rw [must_some h1, List.length_cons]; omega
theorem parsC_len : ∀ (g : Nat) (l : List UInt8) (ps : List It), parsC g l = some ps → ∀ p ∈ ps, p.value.size ≤ l.length
  | 0, l, ps, h, p, hp => by
    unfold parsC at h
    split at h
    · obtain rfl := Option.some.inj h; cases hp
    · cases h
  | g + 1, l, ps, h, p, hp => by
    unfold parsC at h
    split at h
    · obtain rfl := Option.some.inj h; cases hp
    · cases h1 : parC l with
      | none => rw [h1] at h; cases h
      | some xr =>
        obtain ⟨x, r⟩ := xr
        rw [h1] at h
        simp only at h
        cases h2 : parsC g (skip r) with
        | none => rw [h2] at h; cases h
        | some xs =>
          rw [h2] at h
          obtain rfl := Option.some.inj h
          rcases List.mem_cons.1 hp with rfl | hp
          · exact parC_len h1
          · have := parsC_len g (skip r) xs h2 p hp
            have a1 := parC_lt h1
            have a2 := skip_le r
            omega
theorem headC_rest {l r : List UInt8} {x : ByteArray × ByteArray} (h0 : headC l = some (x, r)) : r.length ≤ l.length := by
  unfold headC at h0
  cases h1 : tokC (skip l) with
  | none => rw [h1] at h0; cases h0
  | some tr =>
    obtain ⟨t0, r0⟩ := tr
    rw [h1] at h0
    simp only at h0
    cases h2 : must 47 r0 with
    | none => rw [h2] at h0; cases h0
    | some r1 =>
      rw [h2] at h0
      simp only at h0
      cases h3 : tokC r1 with
      | none => rw [h3] at h0; cases h0
      | some ur =>
        obtain ⟨u0, r2⟩ := ur
        rw [h3] at h0
        obtain ⟨-, rfl⟩ := Prod.mk.inj (Option.some.inj h0)
        have a1 := skip_le l
        have a2 := (tokC_lt h1).1
        have a3 := (tokC_lt h3).1
        rw [must_some h2, List.length_cons] at a2
        omega
theorem good_sizes {s t u : ByteArray} {ps : List It} (h : mediaOf s = .good t u ps) : t.size ≤ 100 ∧ u.size ≤ 100 ∧ ps.length ≤ 8 ∧ ∀ p ∈ ps, p.name.size ≤ 100 ∧ p.value.size ≤ 1000 := by
  obtain ⟨h1, h2, h3, -⟩ := media_good h
  obtain ⟨l1, l2, l3⟩ := readC_low h2
  have low : ∀ x : ByteArray, Low x → x.size ≤ 100 := fun x hx => by
    have := hx.tok
    unfold isTokL at this
    rw [Bool.and_eq_true, Bool.and_eq_true] at this
    have := of_decide_eq_true this.2.2
    rwa [Array.length_toList] at this
  refine ⟨low t l1, low u l2, h3, fun p hp => ⟨low _ (l3 p hp).1, ?_⟩⟩
  unfold readC at h2
  cases h0 : headC s.data.toList with
  | none => rw [h0] at h2; cases h2
  | some xr =>
    obtain ⟨x, r⟩ := xr
    rw [h0] at h2
    simp only at h2
    cases h9 : parsC s.data.toList.length (skip r) with
    | none => rw [h9] at h2; cases h2
    | some qs =>
      rw [h9] at h2
      obtain ⟨-, rfl⟩ := Prod.mk.inj (Option.some.inj h2)
      have a1 := parsC_len _ _ _ h9 p hp
      have a2 := skip_le r
      have a3 := headC_rest h0
      have lu : s.data.toList.length = s.size := Array.length_toList
      rw [lu] at a3
      omega

theorem bad_known (s : ByteArray) (k a : Nat) (h : mediaOf s = .bad k a) : (k = 14 ∧ a = 1000) ∨ (k = 11 ∧ a = 0) ∨ (k = 15 ∧ a = 0) ∨ (k = 31 ∧ a = 0) := by
  unfold mediaOf at h
  split at h
  · simp only [Med.bad.injEq] at h; omega
  · split at h
    · simp only [Med.bad.injEq] at h; omega
    · split at h
      · simp only [Med.bad.injEq] at h; omega
      · split at h
        · simp only [Med.bad.injEq] at h; omega
        · cases h

def csN : ByteArray := ⟨#[99, 104, 97, 114, 115, 101, 116]⟩
def utfL : List UInt8 := [117, 116, 102, 45, 56]
/-- May content of a kind be read as JSON? -/
def fits (t u : ByteArray) (ps : List It) : Bool := isJson t u && !(paramB ps csN && !((lowS (paramV ps csN)).toList == utfL))
def AccIs (w : World) (x : Value) : Med → Prop
  | .bad k a => ∃ v, FaultAt w x 42 0 v ∧ FaultAt w v k a .nilIface
  | .good t u ps => (fits t u ps = true ∧ x = .nilIface) ∨ (fits t u ps = false ∧ FaultAt w x 42 0 .nilIface)
def AccOut (o : Med) (w : World) (e : Ending) (w' : World) : Prop := ∃ x, e = .returned x ∧ AccIs w' x o ∧ Below w.heap.size w w'
def rkOf : Med → Nat
  | .bad _ _ => 42
  | .good t u ps => if fits t u ps then 0 else 42
def rfOf : Med → Nat
  | .bad k _ => k
  | .good _ _ _ => 0
theorem paramV_le {ps : List It} {nm : ByteArray} {m : Nat} (h : ∀ p ∈ ps, p.value.size ≤ m) : (paramV ps nm).size ≤ m := by
  unfold paramV foundIn
  cases hf : ps.find? (named nm) with
  | none => exact Nat.zero_le _
  | some p => exact h p (List.mem_of_find?_eq_some hf)

set_option maxRecDepth 100000 in
set_option maxHeartbeats 1000000 in
theorem accept_any (s : ByteArray) (hs : s.size ≤ 1000000) (w : World) :
    Calls Tryd.prog 39 #[.string s] w fun e w' => AccOut (mediaOf s) w e w' := by
  have P := fun w => parse_any s hs w
  have W := wrap_any
  have F := fail_any
  have GS := fun t u ps (h : mediaOf s = .good t u ps) => good_sizes h
  generalize mediaOf s = o at *
  cases o with
  | bad k a =>
    clear GS F
    go_enter Tryd.func39, Tryd.ntmps39
    go_wp2_with fail
    refine (P _).mono ?_; rintro e w2 ⟨ad, n, c, x, rfl, -, ⟨b, rfl, f0, f1, f2⟩, hb⟩
    have K : Hid (FaultAt w2 (.iface 65 (.pointer (some ⟨b, 0, none⟩))) k a .nilIface ∧ Below w.heap.size w w2) := ⟨⟨b, rfl, f0, f1, f2⟩, hb⟩
    clear hb f0 f1 f2
    go_wp2_with fail
    refine (W _ _ _ _).mono ?_; rintro e w3 ⟨rfl, hw⟩
    have K3 : Hid (AccIs w3 (.iface 65 (.pointer (some ⟨w2.heap.size + 1, 0, none⟩))) (.bad k a) ∧ Below w.heap.size w w3) := by
      subst hw
      rw [show w2.heap.size + 1 = (w2.alloc (.cells #[.string (tOf (.bad k a)), .string (uOf (.bad k a)), .slice ad n c] 96)).heap.size by simp]
      refine ⟨⟨_, fault_new _ _ _ _, ?_⟩, (K.out.2.alloc K.out.2.size _).alloc (by have := K.out.2.size; simp; omega) _⟩
      exact (K.out.1.below ((Below.refl _ _).alloc (Nat.le_refl _) _) (Nat.le_refl _)).below ((Below.refl _ _).alloc (Nat.le_refl _) _) (Nat.le_refl _)
    clear hw K
    go_wp2_with fail
    go_ret
    exact ⟨_, rfl, K3.out.1, K3.out.2⟩
  | good t u ps =>
    obtain ⟨z1, z2, z3, z4⟩ := GS t u ps rfl
    have PV : (paramV ps csN).size ≤ 1000 := paramV_le (fun p hp => (z4 p hp).2)
    have SV := same_any (paramV ps csN) ⟨#[117, 116, 102, 45, 56]⟩ (by omega) (by decide)
    rw [show (lowS ⟨#[117, 116, 102, 45, 56]⟩).toList = utfL by rw [Lib.toList_data]; rfl] at SV
    have PA := fun ad n c w h hn => param_any t u ad n c ps csN w h hn (fun p hp => by have := (z4 p hp).2; omega)
    have JA := fun ad n c w => json_any t u ad n c w (by omega)
    obtain ⟨ft, hft⟩ : ∃ ft, Hid (fits t u ps = ft) := ⟨_, rfl⟩
    have HF : Hid (ft = (isJson t u && !(paramB ps csN && !((lowS (paramV ps csN)).toList == utfL)))) := by show _ = _; rw [← hft.out]; rfl
    have hz3 := Lib.hid z3
    clear z1 z2 z3 z4 GS PV W
    generalize paramV ps csN = V at *
    generalize paramB ps csN = pb at *
    generalize isJson t u = j at *
    generalize ((lowS V).toList == utfL) = sm at *
    unfold csN at PA
    go_enter Tryd.func39, Tryd.ntmps39
    go_wp2_with fail
    refine (P _).mono ?_; rintro e w2 ⟨ad, n, c, x, rfl, hI, rfl, hb⟩
    simp only [tOf, uOf, psOf] at hI ⊢
    have hl := hI.in.len.1
    have I2 : Hid (ItemsIn (w2.alloc (.cells #[.string t, .string u, .slice ad n c] 96)) (.slice ad n c) ps) := hI.in.below ((Below.refl _ _).alloc (Nat.le_refl _) _)
    have B2 : Hid (Below w.heap.size w (w2.alloc (.cells #[.string t, .string u, .slice ad n c] 96))) := hb.alloc hb.size _
    have CP := PA ad n c _ I2.out (by have := hz3.out; omega)
    have BX : Hid (∀ w3, Below (w2.alloc (.cells #[.string t, .string u, .slice ad n c] 96)).heap.size (w2.alloc (.cells #[.string t, .string u, .slice ad n c] 96)) w3 → w3.cell? ⟨w2.heap.size, 0, none⟩ = some (.string t) ∧ w3.cell? ⟨w2.heap.size, 1, none⟩ = some (.string u) ∧ w3.cell? ⟨w2.heap.size, 2, none⟩ = some (.slice ad n c)) := fun w3 h3 => by
      refine ⟨?_, ?_, ?_⟩
      · rw [h3.cell (p := ⟨w2.heap.size, 0, none⟩) (by simp), World.cell?_alloc_at _ _ _ _ rfl]; rfl
      · rw [h3.cell (p := ⟨w2.heap.size, 1, none⟩) (by simp), World.cell?_alloc_at _ _ _ _ rfl]; rfl
      · rw [h3.cell (p := ⟨w2.heap.size, 2, none⟩) (by simp), World.cell?_alloc_at _ _ _ _ rfl]; rfl
    have CJ := JA ad n c
    clear hI hl hb PA JA I2
    go_wp2_with fail
    refine CP.mono ?_; rintro e w3 ⟨rfl, hb⟩
    have B3 : Hid (Below w.heap.size w w3) := B2.out.trans (hb.mono B2.out.size)
    obtain ⟨d0, d1, d2⟩ := BX.out w3 hb
    clear hb B2 BX
    go_wp2_with fail
    refine (CJ _).mono ?_; rintro e w4 ⟨rfl, hb⟩
    have B4 : Hid (Below w.heap.size w w4) := B3.out.trans (hb.mono B3.out.size)
    clear hb B3 d0 d1 d2
    cases j with
    | false =>
      have V0 : Hid (fits t u ps = false) := by show _ = _; rw [hft.out, HF.out]; rfl
      clear hft HF
      go_wp2_with fail
      refine (F _ _ _).mono ?_; rintro e w5 ⟨rfl, hw⟩
      have K5 : Hid (AccIs w5 (.iface 65 (.pointer (some ⟨w4.heap.size, 0, none⟩))) (.good t u ps) ∧ Below w.heap.size w w5) := by
        subst hw
        exact ⟨.inr ⟨V0.out, fault_new _ _ _ _⟩, B4.out.alloc B4.out.size _⟩
      clear hw B4
      go_wp2_with fail
      go_ret
      exact ⟨_, rfl, K5.out.1, K5.out.2⟩
    | true =>
      cases pb with
      | false =>
        have V0 : Hid (fits t u ps = true) := by show _ = _; rw [hft.out, HF.out]; rfl
        clear hft HF
        go_wp2_with fail
        go_ret
        exact ⟨_, rfl, .inl ⟨V0.out, rfl⟩, B4.out⟩
      | true =>
        cases sm with
        | true =>
          have V0 : Hid (fits t u ps = true) := by show _ = _; rw [hft.out, HF.out]; rfl
          clear hft HF
          go_wp2_with fail
          refine (SV _).mono ?_; rintro e w5 ⟨rfl, hb⟩
          have B5 : Hid (Below w.heap.size w w5) := B4.out.trans (hb.mono B4.out.size)
          clear hb B4
          go_wp2_with fail
          go_ret
          exact ⟨_, rfl, .inl ⟨V0.out, rfl⟩, B5.out⟩
        | false =>
          have V0 : Hid (fits t u ps = false) := by show _ = _; rw [hft.out, HF.out]; rfl
          clear hft HF
          go_wp2_with fail
          refine (SV _).mono ?_; rintro e w5 ⟨rfl, hb⟩
          have B5 : Hid (Below w.heap.size w w5) := B4.out.trans (hb.mono B4.out.size)
          clear hb B4
          go_wp2_with fail
          refine (F _ _ _).mono ?_; rintro e w6 ⟨rfl, hw⟩
          have K5 : Hid (AccIs w6 (.iface 65 (.pointer (some ⟨w5.heap.size, 0, none⟩))) (.good t u ps) ∧ Below w.heap.size w w6) := by
            subst hw
            exact ⟨.inr ⟨V0.out, fault_new _ _ _ _⟩, B5.out.alloc B5.out.size _⟩
          clear hw B5
          go_wp2_with fail
          go_ret
          exact ⟨_, rfl, K5.out.1, K5.out.2⟩

set_option maxRecDepth 100000 in
set_option maxHeartbeats 1000000 in
theorem raccept_any (s : ByteArray) (hs : s.size ≤ 1000000) (w : World) :
    Calls Tryd.prog 30 #[.string s] w fun e w' => e = .returned (.tuple #[.int .i64 (rkOf (mediaOf s)), .int .i64 (rfOf (mediaOf s))]) ∧ Below w.heap.size w w' := by
  have P := fun w => rparse_any s hs w
  have GS := fun t u ps (h : mediaOf s = .good t u ps) => good_sizes h
  have GB := bad_known s
  generalize mediaOf s = o at *
  cases o with
  | bad k a =>
    have hk : ((k : Int) != 0) = true := by rw [bne_iff_ne]; have := GB k a rfl; omega
    clear GS GB
    go_enter Tryd.func30, Tryd.ntmps30
    go_wp2_with fail
    refine (P _).mono ?_; rintro e w2 ⟨ad, n, c, rfl, -, hb⟩
    have K : Hid (Below w.heap.size w w2) := hb
    clear hb
    simp only [tOf, uOf, kOf]
    go_wp2_with fail
    go_ret2
    exact ⟨rfl, K.out.alloc K.out.size _⟩
  | good t u ps =>
    obtain ⟨z1, z2, z3, z4⟩ := GS t u ps rfl
    have PV : (paramV ps csN).size ≤ 1000 := paramV_le (fun p hp => (z4 p hp).2)
    have SV := fun w => rlower_any (paramV ps csN) (by omega) w
    have PA := fun ad n c w h hn => rparam2_any t u ad n c ps csN w h hn
    have JA := fun ad n c w => rjson_any t u ad n c w (by omega)
    obtain ⟨ft, hft⟩ : ∃ ft, Hid (rkOf (.good t u ps) = ft) := ⟨_, rfl⟩
    have HF : Hid (ft = if (isJson t u && !(paramB ps csN && !((lowS (paramV ps csN)).toList == utfL))) = true then 0 else 42) := by show _ = _; rw [← hft.out]; rfl
    rw [hft.out]
    have hz3 := Lib.hid z3
    clear z1 z2 z3 z4 GS PV GB hft
    generalize paramV ps csN = V at *
    generalize paramB ps csN = pb at *
    generalize isJson t u = j at *
    have NE := ne_of (lowS V).toList utfL
    generalize lowS V = LV at *
    obtain ⟨sm, hsm⟩ : ∃ sm, (LV.toList == utfL) = sm := ⟨_, rfl⟩
    rw [hsm] at HF NE
    unfold utfL at NE hsm
    unfold csN at PA
    go_enter Tryd.func30, Tryd.ntmps30
    go_wp2_with fail
    refine (P _).mono ?_; rintro e w2 ⟨ad, n, c, rfl, hI, hb⟩
    simp only [tOf, uOf, psOf, kOf] at hI ⊢
    have hl := hI.in.len.1
    have I2 : Hid (ItemsIn (w2.alloc (.cells #[.string t, .string u, .slice ad n c] 96)) (.slice ad n c) ps) := hI.in.below ((Below.refl _ _).alloc (Nat.le_refl _) _)
    have B2 : Hid (Below w.heap.size w (w2.alloc (.cells #[.string t, .string u, .slice ad n c] 96))) := hb.alloc hb.size _
    have CP := PA ad n c _ I2.out (by have := hz3.out; omega)
    have BX : Hid (∀ w3, Below (w2.alloc (.cells #[.string t, .string u, .slice ad n c] 96)).heap.size (w2.alloc (.cells #[.string t, .string u, .slice ad n c] 96)) w3 → w3.cell? ⟨w2.heap.size, 0, none⟩ = some (.string t) ∧ w3.cell? ⟨w2.heap.size, 1, none⟩ = some (.string u) ∧ w3.cell? ⟨w2.heap.size, 2, none⟩ = some (.slice ad n c)) := fun w3 h3 => by
      refine ⟨?_, ?_, ?_⟩
      · rw [h3.cell (p := ⟨w2.heap.size, 0, none⟩) (by simp), World.cell?_alloc_at _ _ _ _ rfl]; rfl
      · rw [h3.cell (p := ⟨w2.heap.size, 1, none⟩) (by simp), World.cell?_alloc_at _ _ _ _ rfl]; rfl
      · rw [h3.cell (p := ⟨w2.heap.size, 2, none⟩) (by simp), World.cell?_alloc_at _ _ _ _ rfl]; rfl
    have CJ := JA ad n c
    clear hI hl hb PA JA I2
    go_wp2_with fail
    refine CP.mono ?_; rintro e w3 ⟨rfl, hb⟩
    have B3 : Hid (Below w.heap.size w w3) := B2.out.trans (hb.mono B2.out.size)
    obtain ⟨d0, d1, d2⟩ := BX.out w3 hb
    clear hb B2 BX
    go_wp2_with fail
    refine (CJ _).mono ?_; rintro e w4 ⟨rfl, hb⟩
    have B4 : Hid (Below w.heap.size w w4) := B3.out.trans (hb.mono B3.out.size)
    clear hb B3 d0 d1 d2
    cases j with
    | false =>
      have V0 : Hid (ft = 42) := HF.out
      clear HF
      go_wp2_with fail
      go_ret2
      exact ⟨by rw [V0.out]; rfl, B4.out⟩
    | true =>
      cases pb with
      | false =>
        have V0 : Hid (ft = 0) := HF.out
        clear HF
        go_wp2_with fail
        go_ret2
        exact ⟨by rw [V0.out]; rfl, B4.out⟩
      | true =>
        cases sm with
        | true =>
          have V0 : Hid (ft = 0) := HF.out
          clear HF
          go_wp2_with fail
          refine (SV _).mono ?_; rintro e w5 ⟨rfl, hb⟩
          have B5 : Hid (Below w.heap.size w w5) := B4.out.trans (hb.mono B4.out.size)
          clear hb B4
          go_wp2_with fail
          go_ret2
          exact ⟨by rw [V0.out]; rfl, B5.out⟩
        | false =>
          have V0 : Hid (ft = 42) := HF.out
          clear HF
          go_wp2_with fail
          refine (SV _).mono ?_; rintro e w5 ⟨rfl, hb⟩
          have B5 : Hid (Below w.heap.size w w5) := B4.out.trans (hb.mono B4.out.size)
          clear hb B4
          go_wp2_with fail
          go_ret2
          exact ⟨by rw [V0.out]; rfl, B5.out⟩
end Go.Proofs.YtelofhplpeeplaaDoor.media
