/- The law's look at what is too great. -/
import Derived.Test.YtnjiogfnjpnjfaaDoorMdBox
import Derived.Deep.LoopGhost
set_option linter.unusedSimpArgs false
set_option linter.unusedVariables false
namespace Go.Proofs.YtnjiogfnjpnjfaaDoor.media
open Go.RowKit Go.Proofs.YtnjiogfnjpnjfaaDoor.errs

def GreatOut (t u : ByteArray) (n : Nat) (ps : List It) (w : World) (e : Ending) (w' : World) : Prop :=
  ∃ q : Bool, e = .returned (.bool q) ∧ Below w.heap.size w w' ∧ (q = false → n ≤ 30 ∧ t.size ≤ 300 ∧ u.size ≤ 300 ∧ ∀ j, j < n → (itAt ps j).name.size ≤ 300 ∧ (itAt ps j).value.size ≤ 300)
set_option maxRecDepth 100000 in
set_option maxHeartbeats 2000000 in
theorem great_any (t u : ByteArray) (ad : Option Addr) (n c : Nat) (ps : List It) (w : World) (h : ItemsIn w (.slice ad n c) ps) (ht : t.size ≤ maxLen) (hu : u.size ≤ maxLen) (hnb : n ≤ maxLen) :
    Calls Tryd.prog 7 #[.agg #[.string t, .string u, .slice ad n c]] w fun e w' => GreatOut t u n ps w e w' := by
  unfold maxLen at ht hu hnb
  obtain ⟨W, hW⟩ : ∃ W, w.alloc (.cells #[.string t, .string u, .slice ad n c] 24) = W := ⟨_, rfl⟩
  have HB : Hid (Below w.heap.size w W) := by show Below _ _ _; rw [← hW]; exact up _ _
  have HI := Lib.hid (h.below HB.out)
  have HW := Lib.hid hW
  clear h hW
  by_cases h1 : 30 < n
  · have x1 : (30 : Int) < (n : Int) := by omega
    clear h1
    go_enter Tryd.func7, Tryd.ntmps7
    go_wp2_with fail
    go_ret
    exact ⟨true, rfl, up _ _, fun q => by cases q⟩
  have x1 : ¬ (30 : Int) < (n : Int) := by omega
  by_cases h2 : 300 < t.size
  · have x2 : (300 : Int) < (t.size : Int) := by omega
    clear h1 h2
    go_enter Tryd.func7, Tryd.ntmps7
    go_wp2_with fail
    go_ret
    exact ⟨true, rfl, up _ _, fun q => by cases q⟩
  have x2 : ¬ (300 : Int) < (t.size : Int) := by omega
  by_cases h3 : 300 < u.size
  · have x3 : (300 : Int) < (u.size : Int) := by omega
    clear h1 h2 h3
    go_enter Tryd.func7, Tryd.ntmps7
    go_wp2_with fail
    go_ret
    exact ⟨true, rfl, up _ _, fun q => by cases q⟩
  have x3 : ¬ (300 : Int) < (u.size : Int) := by omega
  go_enter Tryd.func7, Tryd.ntmps7
  go_wp2_with fail
  rw [HW.out]
  go_loopg [24] n (fun g a wr => ∃ k : Nat, a = .int .i64 k ∧ g + k = n ∧ Hid (∀ j, j < k → (itAt ps j).name.size ≤ 300 ∧ (itAt ps j).value.size ≤ 300) ∧ Aside (Keeps W wr))
  case atStart => exact ⟨0, rfl, rfl, fun j hj => absurd hj (Nat.not_lt_zero _), Below.refl _ _⟩
  case round =>
    obtain ⟨k, rfl, hg, hd, hA⟩ := hrel
    have y1 : (0 : Int) ≤ (k : Int) := by omega
    by_cases hlt : k < n
    · have y0 : (k : Int) < (n : Int) := by omega
      obtain ⟨bb, oo, rfl, i0, i1, i2⟩ := (HI.out.below hA.out).at hlt
      have KK : Hid (Below w.heap.size w (wr.alloc (.cells #[.string (itAt ps k).name, .string (itAt ps k).value, .bool (itAt ps k).has] 44)) ∧ Keeps W (wr.alloc (.cells #[.string (itAt ps k).name, .string (itAt ps k).value, .bool (itAt ps k).has] 44))) := ⟨chain HB.out (chain hA.out (up _ _)), chain hA.out (up _ _)⟩
      have NX : Hid ((itAt ps k).name.size ≤ 300 → (itAt ps k).value.size ≤ 300 → ∀ j, j < k + 1 → (itAt ps j).name.size ≤ 300 ∧ (itAt ps j).value.size ≤ 300) := fun h4 h5 j hj => by
        by_cases e : j = k
        · rw [e]; exact ⟨h4, h5⟩
        · exact hd.out j (by omega)
      clear hd hA
      generalize (itAt ps k).name = N at *
      generalize (itAt ps k).value = V at *
      generalize (itAt ps k).has = H at *
      by_cases h4 : 300 < N.size
      · have y2 : (300 : Int) < (N.size : Int) := by omega
        clear h4 NX
        go_wp2_with fail
        go_ret
        exact ⟨true, rfl, KK.out.1, fun q => by cases q⟩
      · have y2 : ¬ (300 : Int) < (N.size : Int) := by omega
        by_cases h5 : 300 < V.size
        · have y3 : (300 : Int) < (V.size : Int) := by omega
          clear h4 h5 NX
          go_wp2_with fail
          go_ret
          exact ⟨true, rfl, KK.out.1, fun q => by cases q⟩
        · have y3 : ¬ (300 : Int) < (V.size : Int) := by omega
          have NX := Lib.hid (NX.out (by omega) (by omega))
          clear h4 h5
          go_wp2_with fail
          go_roundg (gk - 1)
          case measure => omega
          case rel => exact ⟨k + 1, by go_num, by omega, NX.out, KK.out.2⟩
    · have y0 : ¬ (k : Int) < (n : Int) := by omega
      have F : Hid (n ≤ 30 ∧ t.size ≤ 300 ∧ u.size ≤ 300 ∧ ∀ j, j < n → (itAt ps j).name.size ≤ 300 ∧ (itAt ps j).value.size ≤ 300) := ⟨by omega, by omega, by omega, fun j hj => hd.out j (by omega)⟩
      clear hd h1 h2 h3
      go_wp2_with fail
      go_ret
      exact ⟨false, rfl, chain HB.out hA.out, fun _ => F.out⟩
end Go.Proofs.YtnjiogfnjpnjfaaDoor.media
