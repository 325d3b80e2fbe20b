/- pick.Refused and the document's: what becomes of a URL that isn't right. -/
import Derived.Test.YtmgdkdohadaknaaDoorPkWeb
import Derived.Test.YtmgdkdohadaknaaDoorHas
import Derived.Recover
set_option linter.unusedSimpArgs false
set_option linter.unusedVariables false
namespace Go.Proofs.YtmgdkdohadaknaaDoor.pick
open Go.RowKit Go.Proofs.YtmgdkdohadaknaaDoor.errs Go.Proofs.YtmgdkdohadaknaaDoor.wire

/-- The deferred function: where nothing panics it finds nothing. -/
theorem catch_idle (w : World) :
    CallsD Tryd.prog 37 #[] .returning w fun e u' w' => e = .returned (.tuple #[]) ∧ u' = .returning ∧ w' = w := by
  refine callsD_of_wpS Tryd.func37 rfl fun c₀ cs hu => ?_
  apply wpS_region
  simp [wpOpsS, go_sem, recoverD, hu, Tryd.ntmps37, Exit.thenS]
  cases c₀
  simp_all [bodyPostS, results, Tryd.results37]
theorem isOf_any (ks : List Int) (p : Option Addr) (n : Int) (w : World) (hc : Chain w ks (.iface 54 (.pointer p))) (hne : ks ≠ []) :
    Calls Tryd.prog 29 #[.iface 54 (.pointer p), .int .i64 n] w fun e w' => e = .returned (.bool (tells ks n)) ∧ w = w' := by
  have C := Is_any ks p n w hc hne
  generalize tells ks n = t at *
  clear hc hne
  go_enter_defers Tryd.func29, Tryd.ntmps29
  go_wp2_with fail
  refine C.mono ?_; rintro e w1 ⟨rfl, rfl⟩
  clear C
  go_wp2_with fail
  refine leaves_cons (f := 37) (args := #[]) (by simp) (by simp [go_sem]) ?_
  refine (catch_idle _).mono ?_
  rintro e u' w'' ⟨rfl, rfl, rfl⟩
  exact ⟨_, results_tmp rfl _ _ _, rfl, rfl⟩

/-- What becomes of a URL that isn't right, by the numbers of its error and of those that it came from. -/
def refusedA (ks : List Int) : An := if tells ks 21 then ⟨1, [], 2⟩ else if tells ks 22 then ⟨1, [], 3⟩ else ⟨1, [], 1⟩
theorem refused_any (ks : List Int) (p : Option Addr) (w : World) (hc : Chain w ks (.iface 54 (.pointer p))) (hne : ks ≠ []) :
    Calls Tryd.prog 20 #[.iface 54 (.pointer p)] w fun e w' => ∃ x, e = .returned x ∧ AnsV w' x (refusedA ks) ∧ Below w.heap.size w w' := by
  have hb0 : Below w.heap.size w (w.alloc (.cells #[.int .i64 0, .slice none 0 0, .int .i64 0] 29)) := (Below.refl _ w).alloc (Nat.le_refl _) _
  have hc0 := hc.kept hb0 (Nat.le_refl _)
  have C1 := isOf_any ks p 21 _ hc0 hne
  have C2 := isOf_any ks p 22 _ hc0 hne
  obtain ⟨X, hX⟩ : ∃ X, Hid (X = refusedA ks) := ⟨_, rfl⟩
  rw [← hX.out]
  unfold refusedA at hX
  clear hc hc0 hb0
  generalize tells ks 21 = t1 at *
  generalize tells ks 22 = t2 at *
  cases t1 with
  | true =>
    have HX : Hid (X = ⟨1, [], 2⟩) := hX.out
    go_enter Tryd.func20, Tryd.ntmps20
    go_wp2_with fail
    refine C1.mono ?_; rintro e w1 ⟨rfl, rfl⟩
    clear C1 C2
    go_wp2_with fail
    exact bodyPost_ret (v := .agg #[.int .i64 1, .slice none 0 0, .int .i64 2]) (by simp [results, Tryd.results20, go_sem]) rfl ⟨_, rfl, ⟨_, by rw [HX.out], by rw [HX.out]; exact strsIn_nil _⟩, (Below.refl _ w).alloc (Nat.le_refl _) _⟩
  | false =>
    cases t2 with
    | true =>
      have HX : Hid (X = ⟨1, [], 3⟩) := hX.out
      go_enter Tryd.func20, Tryd.ntmps20
      go_wp2_with fail
      refine C1.mono ?_; rintro e w1 ⟨rfl, rfl⟩
      clear C1
      go_wp2_with fail
      refine C2.mono ?_; rintro e w1 ⟨rfl, rfl⟩
      clear C2
      go_wp2_with fail
      exact bodyPost_ret (v := .agg #[.int .i64 1, .slice none 0 0, .int .i64 3]) (by simp [results, Tryd.results20, go_sem]) rfl ⟨_, rfl, ⟨_, by rw [HX.out], by rw [HX.out]; exact strsIn_nil _⟩, (Below.refl _ w).alloc (Nat.le_refl _) _⟩
    | false =>
      have HX : Hid (X = ⟨1, [], 1⟩) := hX.out
      go_enter Tryd.func20, Tryd.ntmps20
      go_wp2_with fail
      refine C1.mono ?_; rintro e w1 ⟨rfl, rfl⟩
      clear C1
      go_wp2_with fail
      refine C2.mono ?_; rintro e w1 ⟨rfl, rfl⟩
      clear C2
      go_wp2_with fail
      exact bodyPost_ret (v := .agg #[.int .i64 1, .slice none 0 0, .int .i64 1]) (by simp [results, Tryd.results20, go_sem]) rfl ⟨_, rfl, ⟨_, by rw [HX.out], by rw [HX.out]; exact strsIn_nil _⟩, (Below.refl _ w).alloc (Nat.le_refl _) _⟩

/-- The document's answer. -/
def rrefusedA (k f : Int) : An := if k = 21 ∨ f = 21 then ⟨1, [], 2⟩ else if k = 22 ∨ f = 22 then ⟨1, [], 3⟩ else ⟨1, [], 1⟩
theorem rrefused_any (k f : Int) (w : World) :
    Calls Tryd.prog 21 #[.int .i64 k, .int .i64 f] w fun e w' => ∃ x, e = .returned x ∧ AnsV w' x (rrefusedA k f) ∧ Below w.heap.size w w' := by
  obtain ⟨X, hX⟩ : ∃ X, Hid (X = rrefusedA k f) := ⟨_, rfl⟩
  rw [← hX.out]
  unfold rrefusedA at hX
  have b1 : ∀ m : Int, k = m → (k == m) = true := fun m h => beq_iff_eq.2 h
  have b2 : ∀ m : Int, ¬ k = m → (k == m) = false := fun m h => beq_eq_false_iff_ne.2 h
  have b3 : ∀ m : Int, f = m → (f == m) = true := fun m h => beq_iff_eq.2 h
  have b4 : ∀ m : Int, ¬ f = m → (f == m) = false := fun m h => beq_eq_false_iff_ne.2 h
  by_cases h1 : k = 21 ∨ f = 21
  · have HX : Hid (X = ⟨1, [], 2⟩) := hX.out.trans (if_pos h1)
    rcases (show k = 21 ∨ (¬ k = 21 ∧ f = 21) by omega) with e | ⟨e, e'⟩
    · have y1 := b1 21 e
      clear b1 b2 b3 b4 h1 e
      go_enter Tryd.func21, Tryd.ntmps21
      go_wp2_with fail
      exact bodyPost_ret (v := .agg #[.int .i64 1, .slice none 0 0, .int .i64 2]) (by simp [results, Tryd.results21, go_sem]) rfl ⟨_, rfl, ⟨_, by rw [HX.out], by rw [HX.out]; exact strsIn_nil _⟩, (Below.refl _ w).alloc (Nat.le_refl _) _⟩
    · have y1 := b2 21 e
      have y2 := b3 21 e'
      clear b1 b2 b3 b4 h1 e e'
      go_enter Tryd.func21, Tryd.ntmps21
      go_wp2_with fail
      exact bodyPost_ret (v := .agg #[.int .i64 1, .slice none 0 0, .int .i64 2]) (by simp [results, Tryd.results21, go_sem]) rfl ⟨_, rfl, ⟨_, by rw [HX.out], by rw [HX.out]; exact strsIn_nil _⟩, (Below.refl _ w).alloc (Nat.le_refl _) _⟩
  · have y1 := b2 21 (fun e => h1 (.inl e))
    have y2 := b4 21 (fun e => h1 (.inr e))
    by_cases h2 : k = 22 ∨ f = 22
    · have HX : Hid (X = ⟨1, [], 3⟩) := (hX.out.trans (if_neg h1)).trans (if_pos h2)
      rcases (show k = 22 ∨ (¬ k = 22 ∧ f = 22) by omega) with e | ⟨e, e'⟩
      · have y3 := b1 22 e
        clear b1 b2 b3 b4 h1 h2 e
        go_enter Tryd.func21, Tryd.ntmps21
        go_wp2_with fail
        exact bodyPost_ret (v := .agg #[.int .i64 1, .slice none 0 0, .int .i64 3]) (by simp [results, Tryd.results21, go_sem]) rfl ⟨_, rfl, ⟨_, by rw [HX.out], by rw [HX.out]; exact strsIn_nil _⟩, (Below.refl _ w).alloc (Nat.le_refl _) _⟩
      · have y3 := b2 22 e
        have y4 := b3 22 e'
        clear b1 b2 b3 b4 h1 h2 e e'
        go_enter Tryd.func21, Tryd.ntmps21
        go_wp2_with fail
        exact bodyPost_ret (v := .agg #[.int .i64 1, .slice none 0 0, .int .i64 3]) (by simp [results, Tryd.results21, go_sem]) rfl ⟨_, rfl, ⟨_, by rw [HX.out], by rw [HX.out]; exact strsIn_nil _⟩, (Below.refl _ w).alloc (Nat.le_refl _) _⟩
    · have HX : Hid (X = ⟨1, [], 1⟩) := (hX.out.trans (if_neg h1)).trans (if_neg h2)
      have y3 := b2 22 (fun e => h2 (.inl e))
      have y4 := b4 22 (fun e => h2 (.inr e))
      clear b1 b2 b3 b4 h1 h2
      go_enter Tryd.func21, Tryd.ntmps21
      go_wp2_with fail
      exact bodyPost_ret (v := .agg #[.int .i64 1, .slice none 0 0, .int .i64 1]) (by simp [results, Tryd.results21, go_sem]) rfl ⟨_, rfl, ⟨_, by rw [HX.out], by rw [HX.out]; exact strsIn_nil _⟩, (Below.refl _ w).alloc (Nat.le_refl _) _⟩
end Go.Proofs.YtmgdkdohadaknaaDoor.pick
