/- The document's answers of layer 28: of, Custom, Web. -/
import Derived.Test.YtmgdkdohadaknaaDoorPkWeb
set_option linter.unusedSimpArgs false
set_option linter.unusedVariables false
namespace Go.Proofs.YtmgdkdohadaknaaDoor.pick
open Go.RowKit Go.Proofs.YtmgdkdohadaknaaDoor.errs Go.Proofs.YtmgdkdohadaknaaDoor.wire

theorem of_any (l : List ByteArray) (hne : l ≠ []) (v : Value) (w : World) (h : StrsIn w v l) :
    Calls Tryd.prog 24 #[v] w fun e w' => ∃ x, e = .returned x ∧ AnsV w' x (opened l) ∧ Below w.heap.size w w' := by
  obtain ⟨a, cap, rfl⟩ := h.form
  have h0 : l.length ≠ 0 := fun e => hne (List.length_eq_zero_iff.1 e)
  have hb0 : Below w.heap.size w (w.alloc (.cells #[.int .i64 0, .slice none 0 0, .int .i64 0] 29)) := (Below.refl _ w).alloc (Nat.le_refl _) _
  obtain ⟨n, hnn⟩ : ∃ n, Hid (l.length = n) := ⟨_, rfl⟩
  rw [hnn.out] at h0
  have HH := Lib.hid h
  obtain ⟨X, hX⟩ : ∃ X, Hid (opened l = X) := ⟨_, rfl⟩
  have HA : Hid (X.apps = l) := by show _ = _; rw [← hX.out]; exact opened_kind l
  rw [hX.out]
  clear h hb0
  by_cases h1 : n = 1
  · have hXX : Hid (X = ⟨3, l, 8⟩) := hX.out.symm.trans (if_pos (hnn.out.trans h1))
    have y1 : ¬ (1 : Int) < (n : Int) := by omega
    rw [hnn.out]
    clear h1 h0
    go_enter Tryd.func24, Tryd.ntmps24
    go_wp2_with fail
    refine bodyPost_ret (v := .agg #[.int .i64 3, .slice a n cap, .int .i64 8]) (by simp [results, Tryd.results24, go_sem]) rfl ⟨_, rfl, ⟨.slice a n cap, by rw [hXX.out], ?_⟩, (Below.refl _ w).alloc (Nat.le_refl _) _⟩
    rw [hXX.out, ← hnn.out]
    exact HH.out.below ((Below.refl _ w).alloc (Nat.le_refl _) _)
  · have hXX : Hid (X = ⟨4, l, 9⟩) := hX.out.symm.trans (if_neg (fun e => h1 (hnn.out.symm.trans e)))
    have y1 : (1 : Int) < (n : Int) := by omega
    rw [hnn.out]
    clear h1 h0
    go_enter Tryd.func24, Tryd.ntmps24
    go_wp2_with fail
    refine bodyPost_ret (v := .agg #[.int .i64 4, .slice a n cap, .int .i64 9]) (by simp [results, Tryd.results24, go_sem]) rfl ⟨_, rfl, ⟨.slice a n cap, by rw [hXX.out], ?_⟩, (Below.refl _ w).alloc (Nat.le_refl _) _⟩
    rw [hXX.out, ← hnn.out]
    exact HH.out.below ((Below.refl _ w).alloc (Nat.le_refl _) _)

set_option maxHeartbeats 1000000 in
theorem rcustom_any (l : List ByteArray) (v : Value) (w : World) (h : StrsIn w v l) :
    Calls Tryd.prog 15 #[v] w fun e w' => ∃ x, e = .returned x ∧ AnsV w' x (customA l) ∧ Below w.heap.size w w' := by
  obtain ⟨a, cap, rfl⟩ := h.form
  have hb0 : Below w.heap.size w (w.alloc (.cells #[.int .i64 0, .slice none 0 0, .int .i64 0] 29)) := (Below.refl _ w).alloc (Nat.le_refl _) _
  have C := fun hne => of_any l hne _ _ (h.below hb0)
  have HB0 := Lib.hid hb0
  clear hb0 h
  obtain ⟨n, hnn⟩ : ∃ n, Hid (l.length = n) := ⟨_, rfl⟩
  rw [hnn.out] at C ⊢
  by_cases h0 : n = 0
  · have hl0 : l = [] := List.length_eq_zero_iff.1 (hnn.out.trans h0)
    have y1 : ((n : Int) == 0) = true := by rw [beq_iff_eq]; omega
    subst hl0
    clear C h0
    go_enter Tryd.func15, Tryd.ntmps15
    go_wp2_with fail
    refine bodyPost_ret (v := .agg #[.int .i64 1, .slice none 0 0, .int .i64 4]) (by simp [results, Tryd.results15, go_sem]) rfl ⟨_, rfl, ⟨_, rfl, strsIn_nil _⟩, ?_⟩
    exact (Below.refl _ w).alloc (Nat.le_refl _) _
  · have y1 : ((n : Int) == 0) = false := by rw [beq_eq_false_iff_ne]; omega
    have hne : l ≠ [] := fun e => h0 (by rw [← hnn.out, e]; rfl)
    have C := C hne
    have hX : customA l = opened l := if_neg hne
    rw [hX]
    clear h0 hX
    obtain ⟨X, hX⟩ : ∃ X, opened l = X := ⟨_, rfl⟩
    rw [hX] at C ⊢
    clear hX hne
    have r0 := blk_new w #[.int .i64 0, .slice none 0 0, .int .i64 0] 29
    have HR := Lib.hid r0
    clear r0
    go_enter Tryd.func15, Tryd.ntmps15
    go_wp2_with fail
    refine C.mono ?_; rintro e w1 ⟨x, rfl, ⟨s, rfl, hs⟩, hb⟩
    obtain ⟨sa, sc, rfl⟩ := hs.form
    have r1 := HR.out.below hb HR.out.lt
    have hB := HB0.out.trans (hb.mono HB0.out.size)
    have d0 := r1.get 0
    have d1 := r1.get 1
    have d2 := r1.get 2
    have f0 := r1.frz 0
    have f1 := r1.frz 1
    have f2 := r1.frz 2
    simp only [List.getElem?_toArray, List.getElem?_cons_zero, List.getElem?_cons_succ] at d0 d1 d2
    have H1 := Lib.hid (And.intro hs (And.intro r1 hB))
    clear hs r1 hB hb C HR
    go_wp2_with fail
    exact bodyPost_ret (v := .agg #[.int .i64 X.kind, .slice sa X.apps.length sc, .int .i64 X.why]) (by simp [results, Tryd.results15, go_sem, d0, d1, d2]) rfl ⟨_, rfl, ⟨_, rfl, H1.out.1.res H1.out.2.1⟩, below_res H1.out.2.2 _ _ _⟩

theorem rank_is (x : Cd) : (x.c = false → ready x = false ∧ rank x = 4) ∧ (x.c = true → x.v = false → ready x = false ∧ rank x = 5) ∧ (x.c = true → x.v = true → x.l = false → ready x = false ∧ rank x = 6) ∧ (x.c = true → x.v = true → x.l = true → x.o = false → ready x = true ∧ rank x = 6) ∧ (x.c = true → x.v = true → x.l = true → x.o = true → ready x = false ∧ rank x = 7) := by
  obtain ⟨a, c, v, l, o⟩ := x
  cases c <;> cases v <;> cases l <;> cases o <;> simp [ready, rank, isOff, isRules, isUnknown]
end Go.Proofs.YtmgdkdohadaknaaDoor.pick
