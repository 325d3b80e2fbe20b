/- glob.Check, glob.Match: what is wrong with a pattern; whether a text is in its language. -/
import Derived.Test.YtjijdaheabgphaaDoorGpCovers
import Derived.Test.YtjijdaheabgphaaDoorGlLower
import Derived.Test.YtjijdaheabgphaaDoorGlMatch
set_option linter.unusedSimpArgs false
set_option linter.unusedVariables false
namespace Go.Proofs.YtjijdaheabgphaaDoor.gparts
open Go.RowKit Go.Proofs.YtjijdaheabgphaaDoor.errs Go.Proofs.YtjijdaheabgphaaDoor.rows Go.Proofs.YtjijdaheabgphaaDoor.utf Go.Proofs.YtjijdaheabgphaaDoor.chars Go.Proofs.YtjijdaheabgphaaDoor.gmath Go.Proofs.YtjijdaheabgphaaDoor.glref Go.Proofs.YtjijdaheabgphaaDoor.lower

theorem small_sign (c : Int) (k : Int) (h : k = 42 ∨ k = 63) : (small c = k) = (c = k) := by
  unfold small
  apply propext
  split <;> omega
theorem same_small (c x : Int) : sameC true c x = decide (small c = small x) := by
  unfold sameC
  split
  · rename_i h
    have : (c = x) = (small c = small x) := by
      unfold small
      apply propext
      simp at h
      split <;> split <;> omega
    rw [decide_eq_decide.2 (by rw [this])]
  · rfl
theorem same_plain (c x : Int) : sameC false c x = decide (c = x) := by unfold sameC; rw [if_pos (.inl rfl)]
theorem apple_takes (c x : Int) : (apple c).takes x = ((decide (c = 42) || decide (c = 63)) || decide (c = x)) := rfl
def fo (fold : Bool) (c : Int) : Int := if fold then small c else c
theorem fo_sign (fold : Bool) (c k : Int) (h : k = 42 ∨ k = 63) : decide (fo fold c = k) = decide (c = k) := by
  unfold fo
  cases fold with
  | true => rw [if_pos rfl, decide_eq_decide.2 (by rw [small_sign c k h])]
  | false => rfl
theorem fo_same (fold : Bool) (c x : Int) : decide (fo fold c = fo fold x) = sameC fold c x := by
  unfold fo
  cases fold with
  | true => rw [same_small]; rfl
  | false => rw [same_plain]; rfl
theorem lang_lg (fold : Bool) : ∀ (P T : List Int), lang fold P T = lg ((P.map (fo fold)).map apple) (T.map (fo fold))
  | [], T => by
    rw [lang_nil]
    show _ = lg [] _
    rw [lg_nil]
    cases T <;> rfl
  | c :: P, T => by
    have em : (apple (fo fold c)).many = decide (c = 42) := fo_sign fold c 42 (.inl rfl)
    induction T with
    | nil =>
      rw [lang_end, lang_lg fold P []]
      show _ = lg (apple (fo fold c) :: (P.map (fo fold)).map apple) []
      rw [lg_end, em]
      rfl
    | cons x r ih =>
      show _ = lg (apple (fo fold c) :: (P.map (fo fold)).map apple) (fo fold x :: r.map (fo fold))
      by_cases hc : c = 42
      · subst hc
        rw [lang_star, lg_many (by rw [em]; rfl), ih, lang_lg fold P (x :: r), apple_takes, fo_sign fold 42 42 (.inl rfl)]
        show _ = (_ || ((true || _) || _) && _)
        rw [Bool.true_or, Bool.true_or, Bool.true_and]
        rfl
      · rw [lang_one fold hc, lg_one (by rw [em]; exact decide_eq_false hc), lang_lg fold P r, apple_takes, fo_sign fold c 42 (.inl rfl), fo_sign fold c 63 (.inr rfl), fo_same, decide_eq_false hc, Bool.false_or]

/-- What Check answers. -/
def CheckOut (r : Int × Int) (w : World) (e : Ending) (w' : World) : Prop := if r.1 = 0 then e = .returned .nilIface ∧ Below w.heap.size w w' else Failed w e w' r.1 r.2 id

set_option maxRecDepth 100000 in
set_option maxHeartbeats 2000000 in
theorem check_any (p : ByteArray) (hz : p.size ≤ 1000000) (w : World) (hT : Tabs w) :
    Calls Tryd.prog 13 #[.string p] w fun e w' => CheckOut (checkOf p) w e w' := by
  unfold checkOf
  by_cases hb : 1024 < p.size
  · rw [if_pos hb]
    have y0 : (1024 : Int) < (p.size : Int) := by omega
    clear hb
    have FA := fun w => (fail_any 14 1024 w).mono (R' := fun e w' => Failed w e w' 14 1024 id) (fun e w' ⟨h1, h2⟩ => by subst h1 h2; exact failed_new w w (Below.refl _ _) 14 1024 id)
    go_enter Tryd.func13, Tryd.ntmps13
    go_wp2_with fail
    refine ((FA _).mono Failed.opened).mono ?_; rintro e w1 ⟨bb, rfl, h1⟩
    go_wp2_with fail
    go_ret
    exact ⟨_, rfl, h1.out.1, h1.out.2⟩
  · rw [if_neg hb]
    have y0 : (p.size : Int) ≤ 1024 := by omega
    obtain ⟨v, W, hcv, hsl⟩ := bytes_new p hz w
    have C := valid_any p v W (hT.below hsl.out.2 (Nat.le_refl _)) hsl.out.1
    have hcv := hcv.out
    have K : Aside (Below w.heap.size w W) := hsl.out.2
    clear hb hsl
    cases hf : firstBad p with
    | none =>
      rw [hf] at C
      have C : Calls Tryd.prog 33 #[v] W fun e w' => e = .returned .nilIface ∧ Below W.heap.size W w' := C
      clear hf
      go_enter Tryd.func13, Tryd.ntmps13
      go_wp2_with fail
      refine C.mono ?_; rintro e w1 ⟨rfl, h1⟩
      have K1 : Aside (Below w.heap.size w w1) := Keeps.step K.out h1
      clear h1 C
      go_wp2_with fail
      go_ret
      exact ⟨rfl, K1.out⟩
    | some i =>
      rw [hf] at C
      have C : Calls Tryd.prog 33 #[v] W fun e w' => ∃ bb, e = .returned (.iface 64 (.pointer (some ⟨bb, 0, none⟩))) ∧ Aside (FaultAt w' (.iface 64 (.pointer (some ⟨bb, 0, none⟩))) 12 i .nilIface ∧ Below W.heap.size W w') := C.mono Failed.opened
      clear hf
      go_enter Tryd.func13, Tryd.ntmps13
      go_wp2_with fail
      refine C.mono ?_; rintro e w1 ⟨bb, rfl, h1⟩
      have K1 : Aside (Below w.heap.size w w1) := Keeps.step K.out h1.out.2
      go_wp2_with fail
      go_ret
      exact ⟨_, rfl, h1.out.1, K1.out⟩
set_option maxRecDepth 100000 in
set_option maxHeartbeats 2000000 in
theorem right_any (s : ByteArray) (hz : s.size ≤ 1000000) (w : World) (hT : Tabs w) :
    Calls Tryd.prog 25 #[.string s] w fun e w' => e = .returned (.bool (firstBad s).isNone) ∧ Below w.heap.size w w' := by
  obtain ⟨v, W, hcv, hsl⟩ := bytes_new s hz w
  have C := valid_any s v W (hT.below hsl.out.2 (Nat.le_refl _)) hsl.out.1
  have hcv := hcv.out
  have K : Aside (Below w.heap.size w W) := hsl.out.2
  clear hsl
  cases hf : firstBad s with
  | none =>
    rw [hf] at C
    have C : Calls Tryd.prog 33 #[v] W fun e w' => e = .returned .nilIface ∧ Below W.heap.size W w' := C
    clear hf
    go_enter Tryd.func25, Tryd.ntmps25
    go_wp2_with fail
    refine C.mono ?_; rintro e w1 ⟨rfl, h1⟩
    have K1 : Aside (Below w.heap.size w w1) := Keeps.step K.out h1
    clear h1 C
    go_wp2_with fail
    go_ret
    exact ⟨rfl, K1.out⟩
  | some i =>
    rw [hf] at C
    have C : Calls Tryd.prog 33 #[v] W fun e w' => ∃ bb, e = .returned (.iface 64 (.pointer (some ⟨bb, 0, none⟩))) ∧ Aside (FaultAt w' (.iface 64 (.pointer (some ⟨bb, 0, none⟩))) 12 i .nilIface ∧ Below W.heap.size W w') := C.mono Failed.opened
    clear hf
    go_enter Tryd.func25, Tryd.ntmps25
    go_wp2_with fail
    refine C.mono ?_; rintro e w1 ⟨bb, rfl, h1⟩
    have K1 : Aside (Below w.heap.size w w1) := Keeps.step K.out h1.out.2
    clear h1
    go_wp2_with fail
    go_ret
    exact ⟨rfl, K1.out⟩
set_option maxRecDepth 100000 in
set_option maxHeartbeats 2000000 in
theorem glower_any (s : ByteArray) (hz : s.size ≤ 1000000) (w : World) :
    Calls Tryd.prog 26 #[.string s] w fun e w' => e = .returned (.string (lo s)) ∧ Below w.heap.size w w' := by
  have C := lower_any s hz w
  go_enter Tryd.func26, Tryd.ntmps26
  go_wp2_with fail
  refine C.mono ?_; rintro e w1 ⟨rfl, h1⟩
  go_wp2_with fail
  go_ret
  exact ⟨rfl, h1⟩

set_option maxRecDepth 100000 in
set_option maxHeartbeats 4000000 in
theorem match_any (fold : Bool) (p s : ByteArray) (hp : p.size ≤ 1000000) (hs : s.size ≤ 1000000) (w : World) (hT : Tabs w) :
    Calls Tryd.prog 10 #[.string p, .string s, .bool fold] w fun e w' => e = .returned (.bool (matchOf fold p s)) ∧ Below w.heap.size w w' := by
  have T : Aside (Tabs w) := hT
  have CK := check_any p hp w hT
  clear hT
  obtain ⟨m, hm⟩ : ∃ m, Hid (matchOf fold p s = m) := ⟨_, rfl⟩
  rw [hm.out]
  by_cases hc : (checkOf p).1 = 0
  · have CK : Calls Tryd.prog 13 #[.string p] w fun e w' => e = .returned .nilIface ∧ Below w.heap.size w w' := CK.mono fun e w' h => by unfold CheckOut at h; rwa [if_pos hc] at h
    have RT := fun w' (h : Keeps w w') => right_any s hs w' (T.out.below h (Nat.le_refl _))
    have HC := Lib.hid hc
    clear hc
    cases hf : firstBad s with
    | some i =>
      rw [hf] at RT
      have M : Aside (m = false) := by
        show m = false
        rw [← hm.out]; unfold matchOf; rw [hf]; simp
      have RT : ∀ w', Keeps w w' → Calls Tryd.prog 25 #[.string s] w' fun e w'' => e = .returned (.bool false) ∧ Below w'.heap.size w' w'' := RT
      clear hf
      go_enter Tryd.func10, Tryd.ntmps10
      go_wp2_with fail
      refine CK.mono ?_; rintro e w1 ⟨rfl, h1⟩
      have K1 : Keeps w w1 := h1
      have RT := RT w1 K1
      have K1 := Lib.hid h1
      clear h1 CK
      go_wp2_with fail
      refine RT.mono ?_; rintro e w2 ⟨rfl, h2⟩
      have K2 : Aside (Below w.heap.size w w2) := Keeps.step K1.out h2
      clear h2
      go_wp2_with fail
      go_ret
      exact ⟨by rw [M.out]; rfl, K2.out⟩
    | none =>
      rw [hf] at RT
      have M : Aside (m = lang fold (all p) (all s)) := by
        show m = _
        rw [← hm.out]; unfold matchOf; rw [hf, HC.out]; simp
      have RT : ∀ w', Keeps w w' → Calls Tryd.prog 25 #[.string s] w' fun e w'' => e = .returned (.bool true) ∧ Below w'.heap.size w' w'' := RT
      have PL : Aside (∀ q : ByteArray, (apples q).length ≤ q.size) := fun q => by unfold apples; rw [List.length_map]; exact all_le q
      clear hf
      cases fold with
      | false =>
        have RD := fun w => read_any p w hp
        have CV := fun v w (h : PartsIn w v (apples p)) => covers_any (apples p) v s w h (by have := PL.out p; omega) hs
        have E : Aside (lg (apples p) (all s) = m) := by
          show _ = m
          rw [M.out, lang_lg]
          have e : fo false = id := by funext c; rfl
          rw [e, List.map_id, List.map_id]
          rfl
        rw [E.out] at CV
        go_enter Tryd.func10, Tryd.ntmps10
        go_wp2_with fail
        refine CK.mono ?_; rintro e w1 ⟨rfl, h1⟩
        have K1 : Keeps w w1 := h1
        have RT := RT w1 K1
        have K1 := Lib.hid h1
        clear h1 CK
        go_wp2_with fail
        refine RT.mono ?_; rintro e w2 ⟨rfl, h2⟩
        have K2 : Aside (Below w.heap.size w w2) := Keeps.step K1.out h2
        clear h2 RT K1
        go_wp2_with fail
        refine (RD w2).mono ?_; rintro e w3 ⟨v3, rfl, h3⟩
        have CV := CV v3 w3 (own_parts h3.out.1)
        have K3 : Aside (Below w.heap.size w w3) := Keeps.step K2.out h3.out.2
        clear h3 K2 RD
        go_wp2_with fail
        refine CV.mono ?_; rintro e w4 ⟨rfl, h4⟩
        have K4 : Aside (Below w.heap.size w w4) := Keeps.step K3.out h4
        clear h4 K3
        go_wp2_with fail
        go_ret
        exact ⟨rfl, K4.out⟩
      | true =>
        have LP := fun w => glower_any p hp w
        have LS := fun w => glower_any s hs w
        have RD := fun w => read_any (lo p) w (by rw [lo_size]; exact hp)
        have CV := fun v w (h : PartsIn w v (apples (lo p))) => covers_any (apples (lo p)) v (lo s) w h (by have := PL.out (lo p); rw [lo_size] at this; omega) (by rw [lo_size]; exact hs)
        have E : Aside (lg (apples (lo p)) (all (lo s)) = m) := by
          show _ = m
          rw [M.out, lang_lg]
          have e : fo true = small := by funext c; rfl
          rw [e, ← all_lo, ← all_lo]
          rfl
        rw [E.out] at CV
        generalize lo p = p' at *
        generalize lo s = s' at *
        go_enter Tryd.func10, Tryd.ntmps10
        go_wp2_with fail
        refine CK.mono ?_; rintro e w1 ⟨rfl, h1⟩
        have K1 : Keeps w w1 := h1
        have RT := RT w1 K1
        have K1 := Lib.hid h1
        clear h1 CK
        go_wp2_with fail
        refine RT.mono ?_; rintro e w2 ⟨rfl, h2⟩
        have K2 : Aside (Below w.heap.size w w2) := Keeps.step K1.out h2
        clear h2 RT K1
        go_wp2_with fail
        refine (LP w2).mono ?_; rintro e w5 ⟨rfl, h5⟩
        have K5 : Aside (Below w.heap.size w w5) := Keeps.step K2.out h5
        clear h5 K2 LP
        go_wp2_with fail
        refine (LS w5).mono ?_; rintro e w6 ⟨rfl, h6⟩
        have K6 : Aside (Below w.heap.size w w6) := Keeps.step K5.out h6
        clear h6 K5 LS
        go_wp2_with fail
        refine (RD w6).mono ?_; rintro e w3 ⟨v3, rfl, h3⟩
        have CV := CV v3 w3 (own_parts h3.out.1)
        have K3 : Aside (Below w.heap.size w w3) := Keeps.step K6.out h3.out.2
        clear h3 K6 RD
        go_wp2_with fail
        refine CV.mono ?_; rintro e w4 ⟨rfl, h4⟩
        have K4 : Aside (Below w.heap.size w w4) := Keeps.step K3.out h4
        clear h4 K3
        go_wp2_with fail
        go_ret
        exact ⟨rfl, K4.out⟩
  · have CK : Calls Tryd.prog 13 #[.string p] w fun e w' => ∃ bb, e = .returned (.iface 64 (.pointer (some ⟨bb, 0, none⟩))) ∧ Below w.heap.size w w' := CK.mono fun e w' h => by
      unfold CheckOut at h
      rw [if_neg hc] at h
      obtain ⟨bb, h1, h2⟩ := Failed.opened e w' h
      exact ⟨bb, h1, h2.out.2⟩
    have M : Aside (m = false) := by
      show m = false
      rw [← hm.out]; unfold matchOf; rw [decide_eq_false hc]; simp
    clear hc
    go_enter Tryd.func10, Tryd.ntmps10
    go_wp2_with fail
    refine CK.mono ?_; rintro e w1 ⟨bb, rfl, h1⟩
    have K1 : Aside (Below w.heap.size w w1) := h1
    clear h1
    go_wp2_with fail
    go_ret
    exact ⟨by rw [M.out]; rfl, K1.out⟩
end Go.Proofs.YtjijdaheabgphaaDoor.gparts
