/- glob.CheckSimple, glob.Simple; the document's examples. -/
import Derived.Test.YtjijdaheabgphaaDoorGpSimp
set_option linter.unusedSimpArgs false
set_option linter.unusedVariables false
namespace Go.Proofs.YtjijdaheabgphaaDoor.gparts
open Go.RowKit Go.Proofs.YtjijdaheabgphaaDoor.errs Go.Proofs.YtjijdaheabgphaaDoor.rows Go.Proofs.YtjijdaheabgphaaDoor.utf Go.Proofs.YtjijdaheabgphaaDoor.chars Go.Proofs.YtjijdaheabgphaaDoor.gmath Go.Proofs.YtjijdaheabgphaaDoor.glref Go.Proofs.YtjijdaheabgphaaDoor.lower

theorem prs_length (s : ByteArray) : ∀ (g i : Nat) (acc : List Pt) (esc : Bool), (prs s g i acc esc).2.length ≤ acc.length + g
  | 0, i, acc, esc => by unfold prs; split <;> simp
  | g + 1, i, acc, esc => by
    unfold prs
    split
    · split
      · split
        · simp
        · rename_i h
          have h0 : 0 < acc.length := by
            rcases Nat.eq_zero_or_pos acc.length with e | e
            · exact absurd (Or.inl e) h
            · exact e
          have := prs_length s g (i + (Utf8.decode s i).2) (manyLast acc) false
          rw [manyLast_length h0] at this
          omega
      · split
        · have := prs_length s g (i + (Utf8.decode s i).2) acc true
          omega
        · have := prs_length s g (i + (Utf8.decode s i).2) (acc ++ [⟨(Utf8.decode s i).1, decide (((Utf8.decode s i).1 : Int) = 46) && !esc, false⟩]) false
          rw [List.length_append, List.length_singleton] at this
          omega
    · split <;> simp
theorem prsOf_length (s : ByteArray) : (prsOf s).2.length ≤ s.size := by
  have := prs_length s s.size 0 [] false
  unfold prsOf
  simpa using this

/-- What is wrong with a pattern with points and stars. -/
def checkSOf (p : ByteArray) : Int × Int := if (checkOf p).1 = 0 then (prsOf p).1 else checkOf p
def simpleOf (p s : ByteArray) : Bool := decide ((checkSOf p).1 = 0) && (firstBad s).isNone && lg (prsOf p).2 (all s)

theorem check_yes {p : ByteArray} (h : (checkOf p).1 = 0) {w : World} {e : Ending} {w' : World} (q : CheckOut (checkOf p) w e w') : e = .returned .nilIface ∧ Below w.heap.size w w' := by unfold CheckOut at q; rwa [if_pos h] at q
theorem out_no {r : Int × Int} (h : ¬ r.1 = 0) {w : World} {e : Ending} {w' : World} (q : CheckOut r w e w') : ∃ bb, e = .returned (.iface 64 (.pointer (some ⟨bb, 0, none⟩))) ∧ Aside (FaultAt w' (.iface 64 (.pointer (some ⟨bb, 0, none⟩))) r.1 r.2 .nilIface ∧ Below w.heap.size w w') := by
  unfold CheckOut at q
  rw [if_neg h] at q
  exact Failed.opened e w' q

set_option maxRecDepth 100000 in
set_option maxHeartbeats 2000000 in
theorem checkS_any (p : ByteArray) (hz : p.size ≤ 1000000) (w : World) (hT : Tabs w) :
    Calls Tryd.prog 21 #[.string p] w fun e w' => CheckOut (checkSOf p) w e w' := by
  have CK := check_any p hz w hT
  unfold checkSOf
  by_cases hc : (checkOf p).1 = 0
  · rw [if_pos hc]
    have CK := CK.mono fun e w' h => check_yes hc h
    have RD := fun w => readSimple_any p w hz
    obtain ⟨r, hr⟩ : ∃ r, Hid (prsOf p = r) := ⟨_, rfl⟩
    rw [hr.out] at RD ⊢
    clear hc hr
    by_cases h0 : r.1.1 = 0
    · have RD : ∀ w, Calls Tryd.prog 37 #[.string p] w fun e w' => ∃ v, e = .returned (.tuple #[v, .nilIface]) ∧ Below w.heap.size w w' := fun w => (RD w).mono fun e w' h => by
        unfold SimpOut at h
        rw [if_pos h0] at h
        obtain ⟨v, h1, h2⟩ := h
        exact ⟨v, h1, h2.out.2⟩
      have HP : Aside (∀ w', Below w.heap.size w w' → CheckOut r.1 w (.returned .nilIface) w') := fun w' h => by
        unfold CheckOut
        rw [if_pos h0]
        exact ⟨rfl, h⟩
      generalize r.1 = r1 at *
      clear h0
      go_enter Tryd.func21, Tryd.ntmps21
      go_wp2_with fail
      refine CK.mono ?_; rintro e w1 ⟨rfl, h1⟩
      have K1 : Aside (Below w.heap.size w w1) := h1
      clear h1 CK
      go_wp2_with fail
      refine (RD _).mono ?_; rintro e w2 ⟨v, rfl, h2⟩
      have K2 : Aside (Below w.heap.size w w2) := Keeps.step K1.out h2
      clear h2 RD
      go_wp2_with fail
      go_ret
      exact HP.out _ K2.out
    · have RD : ∀ w, Calls Tryd.prog 37 #[.string p] w fun e w' => ∃ bb, e = .returned (.tuple #[.slice none 0 0, .iface 64 (.pointer (some ⟨bb, 0, none⟩))]) ∧ Aside (FaultAt w' (.iface 64 (.pointer (some ⟨bb, 0, none⟩))) r.1.1 r.1.2 .nilIface ∧ Below w.heap.size w w') := fun w => (RD w).mono fun e w' h => by
        unfold SimpOut at h
        rw [if_neg h0] at h
        exact Failed.opened e w' h
      have HP : Aside (∀ w' bb, FaultAt w' (.iface 64 (.pointer (some ⟨bb, 0, none⟩))) r.1.1 r.1.2 .nilIface → Below w.heap.size w w' → CheckOut r.1 w (.returned (.iface 64 (.pointer (some ⟨bb, 0, none⟩)))) w') := fun w' bb hf h => by
        unfold CheckOut
        rw [if_neg h0]
        exact ⟨_, rfl, hf, h⟩
      generalize r.1 = r1 at *
      clear h0
      go_enter Tryd.func21, Tryd.ntmps21
      go_wp2_with fail
      refine CK.mono ?_; rintro e w1 ⟨rfl, h1⟩
      have K1 : Aside (Below w.heap.size w w1) := h1
      clear h1 CK
      go_wp2_with fail
      refine (RD _).mono ?_; rintro e w2 ⟨bb, rfl, h2⟩
      have K2 : Aside (Below w.heap.size w w2) := Keeps.step K1.out h2.out.2
      clear RD
      go_wp2_with fail
      go_ret
      exact HP.out _ _ h2.out.1 K2.out
  · rw [if_neg hc]
    have HC := Lib.hid hc
    have CK := CK.mono fun e w' h => out_no hc h
    have HP : Aside (∀ w' bb, FaultAt w' (.iface 64 (.pointer (some ⟨bb, 0, none⟩))) (checkOf p).1 (checkOf p).2 .nilIface → Below w.heap.size w w' → CheckOut (checkOf p) w (.returned (.iface 64 (.pointer (some ⟨bb, 0, none⟩)))) w') := fun w' bb hf h => by
      unfold CheckOut
      rw [if_neg HC.out]
      exact ⟨_, rfl, hf, h⟩
    generalize checkOf p = r at *
    clear hc
    go_enter Tryd.func21, Tryd.ntmps21
    go_wp2_with fail
    refine CK.mono ?_; rintro e w1 ⟨bb, rfl, h1⟩
    go_wp2_with fail
    go_ret
    exact HP.out _ _ h1.out.1 h1.out.2

set_option maxRecDepth 100000 in
set_option maxHeartbeats 4000000 in
theorem simple_any (p s : ByteArray) (hp : p.size ≤ 1000000) (hs : s.size ≤ 1000000) (w : World) (hT : Tabs w) :
    Calls Tryd.prog 19 #[.string p, .string s] w fun e w' => e = .returned (.bool (simpleOf p s)) ∧ Below w.heap.size w w' := by
  have T : Aside (Tabs w) := hT
  have CK := checkS_any p hp w hT
  clear hT
  obtain ⟨m, hm⟩ : ∃ m, Hid (simpleOf p s = m) := ⟨_, rfl⟩
  rw [hm.out]
  by_cases hc : (checkSOf p).1 = 0
  · have CK : Calls Tryd.prog 21 #[.string p] w fun e w' => e = .returned .nilIface ∧ Below w.heap.size w w' := CK.mono fun e w' h => by unfold CheckOut at h; rwa [if_pos hc] at h
    have RT := fun w' (h : Keeps w w') => right_any s hs w' (T.out.below h (Nat.le_refl _))
    have hr : (prsOf p).1.1 = 0 := by
      unfold checkSOf at hc
      by_cases h : (checkOf p).1 = 0
      · rwa [if_pos h] at hc
      · rw [if_neg h] at hc; exact absurd hc h
    have HC := Lib.hid hc
    clear hc
    cases hf : firstBad s with
    | some i =>
      rw [hf] at RT
      have M : Aside (m = false) := by
        show m = false
        rw [← hm.out]; unfold simpleOf; rw [hf]; simp
      have RT : ∀ w', Keeps w w' → Calls Tryd.prog 25 #[.string s] w' fun e w'' => e = .returned (.bool false) ∧ Below w'.heap.size w' w'' := RT
      clear hf hr
      go_enter Tryd.func19, Tryd.ntmps19
      go_wp2_with fail
      refine CK.mono ?_; rintro e w1 ⟨rfl, h1⟩
      have K1 : Keeps w w1 := h1
      have RT := RT w1 K1
      have K1 := Lib.hid h1
      clear h1 CK
      go_wp2_with fail
      refine RT.mono ?_; rintro e w2 ⟨rfl, h2⟩
      have K2 : Aside (Below w.heap.size w w2) := Keeps.step K1.out h2
      clear h2
      go_wp2_with fail
      go_ret
      exact ⟨by rw [M.out]; rfl, K2.out⟩
    | none =>
      rw [hf] at RT
      have M : Aside (lg (prsOf p).2 (all s) = m) := by
        show _ = m
        rw [← hm.out]; unfold simpleOf; rw [hf, HC.out]; simp
      have RT : ∀ w', Keeps w w' → Calls Tryd.prog 25 #[.string s] w' fun e w'' => e = .returned (.bool true) ∧ Below w'.heap.size w' w'' := RT
      have RD : ∀ w, Calls Tryd.prog 37 #[.string p] w fun e w' => ∃ v, e = .returned (.tuple #[v, .nilIface]) ∧ Aside (w'.ownsRow w.heap.size 51 3 v (prsOf p).2.length (flat (prsOf p).2) ∧ Below w.heap.size w w') := fun w => (readSimple_any p w hp).mono fun e w' h => by
        unfold SimpOut at h
        rwa [if_pos hr] at h
      have CV := fun v w (h : PartsIn w v (prsOf p).2) => covers_any (prsOf p).2 v s w h (by have := prsOf_length p; omega) hs
      rw [M.out] at CV
      clear hf hr M
      go_enter Tryd.func19, Tryd.ntmps19
      go_wp2_with fail
      refine CK.mono ?_; rintro e w1 ⟨rfl, h1⟩
      have K1 : Keeps w w1 := h1
      have RT := RT w1 K1
      have K1 := Lib.hid h1
      clear h1 CK
      go_wp2_with fail
      refine RT.mono ?_; rintro e w2 ⟨rfl, h2⟩
      have K2 : Aside (Below w.heap.size w w2) := Keeps.step K1.out h2
      clear h2 RT K1
      go_wp2_with fail
      refine (RD w2).mono ?_; rintro e w3 ⟨v3, rfl, h3⟩
      have CV := CV v3 w3 (own_parts h3.out.1)
      have K3 : Aside (Below w.heap.size w w3) := Keeps.step K2.out h3.out.2
      clear h3 K2 RD
      go_wp2_with fail
      refine CV.mono ?_; rintro e w4 ⟨rfl, h4⟩
      have K4 : Aside (Below w.heap.size w w4) := Keeps.step K3.out h4
      clear h4 K3
      go_wp2_with fail
      go_ret
      exact ⟨rfl, K4.out⟩
  · have CK := CK.mono fun e w' h => out_no hc h
    have M : Aside (m = false) := by
      show m = false
      rw [← hm.out]; unfold simpleOf; rw [decide_eq_false hc]; simp
    clear hc
    go_enter Tryd.func19, Tryd.ntmps19
    go_wp2_with fail
    refine CK.mono ?_; rintro e w1 ⟨bb, rfl, h1⟩
    have K1 : Aside (Below w.heap.size w w1) := h1.out.2
    go_wp2_with fail
    go_ret
    exact ⟨by rw [M.out]; rfl, K1.out⟩

def t1 : ByteArray := ⟨#[47, 98, 117, 121, 47, 63, 42]⟩
def t2 : ByteArray := ⟨#[47, 98, 117, 121, 47, 49]⟩
def t3 : ByteArray := ⟨#[47, 98, 117, 121, 47]⟩
def t4 : ByteArray := ⟨#[47, 97, 46, 42, 98]⟩
def t5 : ByteArray := ⟨#[47, 97, 98]⟩
def t6 : ByteArray := ⟨#[47, 97, 120, 120, 98]⟩
theorem m12 : matchOf false t1 t2 = true := by
  have e1 : checkOf t1 = (0, 0) := by kernel_rfl
  have e2 : firstBad t2 = none := by kernel_rfl
  have e3 : all t1 = [47, 98, 117, 121, 47, 63, 42] := by kernel_rfl
  have e4 : all t2 = [47, 98, 117, 121, 47, 49] := by kernel_rfl
  unfold matchOf
  rw [e1, e2, e3, e4]
  simp [lang, sameC]
theorem m13 : matchOf false t1 t3 = false := by
  have e3 : all t1 = [47, 98, 117, 121, 47, 63, 42] := by kernel_rfl
  have e4 : all t3 = [47, 98, 117, 121, 47] := by kernel_rfl
  unfold matchOf
  rw [e3, e4]
  simp [lang, sameC]
theorem s45 : simpleOf t4 t5 = true := by
  have e1 : (checkSOf t4).1 = 0 := by kernel_rfl
  have e2 : firstBad t5 = none := by kernel_rfl
  have e3 : (prsOf t4).2 = [⟨47, false, false⟩, ⟨97, false, false⟩, ⟨46, true, true⟩, ⟨98, false, false⟩] := by kernel_rfl
  have e4 : all t5 = [47, 97, 98] := by kernel_rfl
  unfold simpleOf
  rw [e1, e2, e3, e4]
  simp [lg_cons, lg_end, lg_nil, Pt.takes]
theorem s46 : simpleOf t4 t6 = true := by
  have e1 : (checkSOf t4).1 = 0 := by kernel_rfl
  have e2 : firstBad t6 = none := by kernel_rfl
  have e3 : (prsOf t4).2 = [⟨47, false, false⟩, ⟨97, false, false⟩, ⟨46, true, true⟩, ⟨98, false, false⟩] := by kernel_rfl
  have e4 : all t6 = [47, 97, 120, 120, 98] := by kernel_rfl
  unfold simpleOf
  rw [e1, e2, e3, e4]
  simp [lg_cons, lg_end, lg_nil, Pt.takes]

set_option maxRecDepth 100000 in
set_option maxHeartbeats 4000000 in
theorem speaks_any (w : World) (hT : Tabs w) :
    Calls Tryd.prog 8 #[] w fun e w' => e = .returned (.bool true) ∧ Below w.heap.size w w' := by
  have T : Aside (Tabs w) := hT
  have A1 := fun w' (h : Keeps w w') => match_any false t1 t2 (by decide) (by decide) w' (T.out.below h (Nat.le_refl _))
  have A2 := fun w' (h : Keeps w w') => match_any false t1 t3 (by decide) (by decide) w' (T.out.below h (Nat.le_refl _))
  have A3 := fun w' (h : Keeps w w') => simple_any t4 t5 (by decide) (by decide) w' (T.out.below h (Nat.le_refl _))
  have A4 := fun w' (h : Keeps w w') => simple_any t4 t6 (by decide) (by decide) w' (T.out.below h (Nat.le_refl _))
  rw [m12] at A1
  rw [m13] at A2
  rw [s45] at A3
  rw [s46] at A4
  unfold t1 t2 at A1
  unfold t1 t3 at A2
  unfold t4 t5 at A3
  unfold t4 t6 at A4
  clear hT
  go_enter Tryd.func8, Tryd.ntmps8
  go_wp2_with fail
  refine (A1 w (Keeps.refl w)).mono ?_; rintro e w1 ⟨rfl, h1⟩
  have A2 := A2 w1 h1
  have K1 := Lib.hid h1
  clear h1 A1
  go_wp2_with fail
  refine A2.mono ?_; rintro e w2 ⟨rfl, h2⟩
  have h2 : Below w.heap.size w w2 := Keeps.step K1.out h2
  have A3 := A3 w2 h2
  have K2 := Lib.hid h2
  clear h2 K1 A2
  go_wp2_with fail
  refine A3.mono ?_; rintro e w3 ⟨rfl, h3⟩
  have h3 : Below w.heap.size w w3 := Keeps.step K2.out h3
  have A4 := A4 w3 h3
  have K3 := Lib.hid h3
  clear h3 K2 A3
  go_wp2_with fail
  refine A4.mono ?_; rintro e w4 ⟨rfl, h4⟩
  have K4 : Aside (Below w.heap.size w w4) := Keeps.step K3.out h4
  clear h4 K3 A4
  go_wp2_with fail
  go_ret
  exact ⟨rfl, K4.out⟩
end Go.Proofs.YtjijdaheabgphaaDoor.gparts
