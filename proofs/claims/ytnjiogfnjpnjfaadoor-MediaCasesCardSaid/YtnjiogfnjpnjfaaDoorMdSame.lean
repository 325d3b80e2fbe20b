/- The document's sameness of two kinds of content that are one. -/
import Derived.Test.YtnjiogfnjpnjfaaDoorMdPars
import Derived.Laws.StructEq
import Derived.Deep.QuietTactic
import Derived.BigQuiet
import Derived.Deep.LoopGhost
set_option linter.unusedSimpArgs false
set_option linter.unusedVariables false
namespace Go.Proofs.YtnjiogfnjpnjfaaDoor.media
open Go.RowKit Go.Proofs.YtnjiogfnjpnjfaaDoor.errs

set_option maxRecDepth 100000 in
theorem item_ne (a b : ByteArray) (c : Bool) (w : World) : (binOp .neq 44 (.agg #[.string a, .string b, .bool c]) (.agg #[.string a, .string b, .bool c])).run Tryd.prog w = .ok (.bool false) w := by
  have ht : Tryd.prog.underlying 44 = some (.struct (Tryd.prog.fieldsOf 44)) := by kernel_rfl
  have hp : Tryd.prog.stoodInHeld 44 = false := by kernel_rfl
  rw [run_neq_struct, show (10000 : Nat) = 9998 + 1 + 1 from rfl, run_equalIn_agg w (9998 + 1) _ _ _ ht hp]
  have hf : Tryd.prog.fieldsOf 44 = (match Tryd.prog.underlying 44 with | some (.struct fs) => fs | _ => #[]) := rfl
  rw [hf, Tryd.underlying44]
  have s1 := Tryd.underlying9
  have s2 := Tryd.underlying4
  simp [Op.eqFields, part, isAgg, underlying, s1, s2, Result.andThen, run_equalIn_string, run_equalIn_bool']

set_option maxRecDepth 100000 in
set_option maxHeartbeats 2000000 in
theorem same_is (t u : ByteArray) (a1 a2 : Option Addr) (n c1 c2 : Nat) (ps : List It) (w : World) (h1 : ItemsIn w (.slice a1 n c1) ps) (h2 : ItemsIn w (.slice a2 n c2) ps) (hn : n ≤ 1000000) :
    Calls Tryd.prog 21 #[.agg #[.string t, .string u, .slice a1 n c1], .agg #[.string t, .string u, .slice a2 n c2]] w fun e w' => e = .returned (.bool true) ∧ Below w.heap.size w w' := by
  have nt : (t.toList != t.toList) = false := by rw [bne_eq_false_iff_eq]
  have nu : (u.toList != u.toList) = false := by rw [bne_eq_false_iff_eq]
  have nn : ((n : Int) != (n : Int)) = false := by rw [bne_eq_false_iff_eq]
  obtain ⟨W, hW⟩ : ∃ W, (w.alloc (.cells #[.string t, .string u, .slice a1 n c1] 24)).alloc (.cells #[.string t, .string u, .slice a2 n c2] 24) = W := ⟨_, rfl⟩
  have HB : Hid (Below w.heap.size w W) := by show Below _ _ _; rw [← hW]; exact ((Below.refl _ _).alloc (Nat.le_refl _) _).alloc (by simp) _
  have HI1 := Lib.hid (h1.below HB.out)
  have HI2 := Lib.hid (h2.below HB.out)
  have HS : Hid (w.heap.size + 1 < W.heap.size) := by show _ < _; rw [← hW]; simp
  have C1 : Hid (W.cell? ⟨w.heap.size, 2, none⟩ = some (.slice a1 n c1)) := by
    show _ = _
    rw [← hW, World.cell?_alloc_lt _ _ _ (by simp), World.cell?_alloc_at _ _ _ _ rfl]; rfl
  have C2 : Hid (W.cell? ⟨w.heap.size + 1, 2, none⟩ = some (.slice a2 n c2)) := by
    show _ = _
    rw [← hW, World.cell?_alloc_at _ _ _ _ (by simp)]; rfl
  have HW := Lib.hid hW
  have IN := item_ne
  clear h1 h2 hW
  go_enter Tryd.func21, Tryd.ntmps21
  go_wp2_with fail
  rw [HW.out]
  go_loopg [5] n (fun g b wr => ∃ i : Nat, b = .int .i64 i ∧ g + i = n ∧ Aside (Below W.heap.size W wr))
  case atStart => exact ⟨0, rfl, rfl, Below.refl _ _⟩
  case round =>
    obtain ⟨i, rfl, hg, hA⟩ := hrel
    have y1 : (0 : Int) ≤ (i : Int) := by omega
    have d1 : wr.cell? ⟨w.heap.size, 2, none⟩ = some (.slice a1 n c1) := (hA.out.cell (p := ⟨w.heap.size, 2, none⟩) (by have := HS.out; show w.heap.size < _; omega)).trans C1.out
    have d2 : wr.cell? ⟨w.heap.size + 1, 2, none⟩ = some (.slice a2 n c2) := (hA.out.cell (p := ⟨w.heap.size + 1, 2, none⟩) HS.out).trans C2.out
    by_cases hlt : i < n
    · have y0 : (i : Int) < (n : Int) := by omega
      obtain ⟨b1, o1, rfl, e0, e1, e2⟩ := (HI1.out.below hA.out).at hlt
      obtain ⟨b2, o2, rfl, f0, f1, f2⟩ := (HI2.out.below hA.out).at hlt
      have I9 := IN (itAt ps i).name (itAt ps i).value (itAt ps i).has
      clear IN
      generalize (itAt ps i).name = N at *
      generalize (itAt ps i).value = V at *
      generalize (itAt ps i).has = H at *
      go_wp2_with fail
      go_quiet (fail)
      go_wp2_with fail
      go_roundg (gk - 1)
      case measure => omega
      case rel => exact ⟨i + 1, by go_num, by omega, below_drewN hA.out _⟩
    · have y0 : ¬ (i : Int) < (n : Int) := by omega
      go_wp2_with fail
      go_ret
      exact ⟨rfl, HB.out.trans (hA.out.mono HB.out.size)⟩
end Go.Proofs.YtnjiogfnjpnjfaaDoor.media
