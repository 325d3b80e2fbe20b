/- ident.Prints as a whole. -/
import Derived.Test.YtmaigbfmbhknhaaDoorPrPrints
import Derived.Shelf.SlSortCmp.NoneTotal
set_option linter.unusedSimpArgs false
set_option linter.unusedVariables false
namespace Go.Proofs.YtmaigbfmbhknhaaDoor.prints
open Go.RowKit Go.Proofs.YtmaigbfmbhknhaaDoor.errs Go.Lib Go.Sort

theorem compact_none (a : Option Addr) (c : Nat) (w : World) :
    Calls Tryd.prog 19 #[.slice a 0 c] w fun e w' => e = .returned (.slice a 0 c) ∧ w = w' := by
  go_enter Tryd.func19, Tryd.ntmps19
  go_wp2_with fail
  go_ret
  exact ⟨rfl, rfl⟩
theorem sort_none (a : Option Addr) (c : Nat) (fv : Value) (w : World) :
    Calls Tryd.prog 16 #[.slice a 0 c, fv] w fun e w' => e = .returned (.tuple #[]) ∧ w = w' :=
  (AnyF.slices_SortFunc_none Tryd.sortP a c fv w).mono fun e w' ⟨h1, h2⟩ => ⟨h1, h2.symm⟩

/-- What ident.Prints answers. -/
def PrintsOut (zs : List Pr) (w : World) (e : Ending) (w' : World) : Prop := ∃ a m c, e = .returned (.slice a m c) ∧ (wanted zs).length = m ∧ Row w' (.slice a m c) (wanted zs) ∧ Keeps w w'

set_option maxHeartbeats 2000000 in
theorem prints_any (zs : List Pr) (v : Value) (w : World) (h : Row w v zs) (hz : zs.length ≤ 1000) :
    Calls Tryd.prog 6 #[v] w (PrintsOut zs w) := by
  have C := clone_any zs v w h hz
  clear h
  by_cases h0 : 0 < zs.length
  · have C : Calls Tryd.prog 15 #[v] w fun e w' => ∃ g c, e = .returned (.slice (some ⟨g, 0, none⟩) zs.length c) ∧ Aside (zs.length ≤ c ∧ c ≤ 9223372036854775807 ∧ Keeps w w' ∧ w.heap.size ≤ g ∧ Hold w' g zs.toArray) :=
      C.mono fun e w' ⟨a, c, e1, q1, q2, q3, q4, q5⟩ => by
        obtain ⟨g, rfl, hg, hH⟩ := q5 h0
        exact ⟨g, c, e1, q1, q2, q4, hg, hH⟩
    have Z : Aside (0 < zs.length ∧ zs.length ≤ 1000) := ⟨h0, hz⟩
    clear h0 hz
    go_enter Tryd.func6, Tryd.ntmps6
    go_wp2_with fail
    refine C.mono ?_; rintro e w1 ⟨g, c, rfl, hC⟩
    have S := sort_any zs g c w1 hC.out.2.2.2.2 Z.out.1 Z.out.2
    clear C
    go_wp2_with fail
    refine S.mono ?_; rintro e w2 ⟨rfl, d, hd, hw, hH, hb⟩
    have K := compact_any d g c w2 hH (by rw [hd]; exact Z.out.2) (by rw [hd]; exact hC.out.1) hC.out.2.1
    rw [hw, hd] at K
    have KA : Aside (Below g w1 w2) := hb
    clear S hd hw hH hb
    have K : Calls Tryd.prog 19 #[.slice (some ⟨g, 0, none⟩) zs.length c] w2 fun e w' => e = .returned (.slice (some ⟨g, 0, none⟩) (wanted zs).length c) ∧ Aside ((∀ j, j < (wanted zs).length → At32 w' g (j * 32) (wanted zs)[j]!) ∧ Below g w2 w') := K
    go_wp2_with fail
    refine K.mono ?_; rintro e w3 ⟨rfl, hK⟩
    clear K
    obtain ⟨m, hm⟩ : ∃ m, Hid ((wanted zs).length = m) := ⟨_, rfl⟩
    rw [hm.out] at hK ⊢
    go_wp2_with fail
    go_ret
    have hmn : m ≤ zs.length := by
      have := upto_length (zs := zs) (Nat.le_refl zs.length)
      rw [List.take_length] at this
      rw [← hm.out]; exact this
    refine ⟨_, m, c, rfl, hm.out, ⟨_, c, by rw [hm.out], by rw [hm.out]; have := hC.out.1; omega, hC.out.2.1, fun h => (by cases h), fun _ => ⟨g, 0, rfl, fun j hj => ?_⟩⟩, ?_⟩
    · rw [Nat.zero_add]
      exact hK.out.1 j (by rw [hm.out] at hj; exact hj)
    · exact hC.out.2.2.1.trans ((KA.out.mono hC.out.2.2.2.1).trans (hK.out.2.mono hC.out.2.2.2.1) |>.mono (Nat.le_refl _))
  · have hz0 : zs = [] := List.length_eq_zero_iff.1 (by omega)
    subst hz0
    have C : Calls Tryd.prog 15 #[v] w fun e w' => ∃ a c, e = .returned (.slice a 0 c) ∧ Aside (c ≤ 9223372036854775807 ∧ (a = none → c = 0) ∧ Keeps w w') :=
      C.mono fun e w' ⟨a, c, e1, q1, q2, q3, q4, q5⟩ => ⟨a, c, e1, q2, q3, q4⟩
    clear h0 hz
    go_enter Tryd.func6, Tryd.ntmps6
    go_wp2_with fail
    refine C.mono ?_; rintro e w1 ⟨a, c, rfl, hC⟩
    clear C
    go_wp2_with (first | (go_at_call 16; refine (sort_none _ _ _ _).mono ?_; rintro e w' ⟨rfl, rfl⟩) | (go_at_call 19; refine (compact_none _ _ _).mono ?_; rintro e w' ⟨rfl, rfl⟩))
    go_ret
    exact ⟨a, 0, c, rfl, rfl, ⟨a, c, rfl, Nat.zero_le _, hC.out.1, hC.out.2.1, fun h => absurd h (by decide)⟩, hC.out.2.2⟩
end Go.Proofs.YtmaigbfmbhknhaaDoor.prints
