/- slices.Clone of a row of numbers. -/
import Derived.Test.YtegbaocpacbljaaDoorArBase
import Derived.OwnWalk
import Derived.Deep.LoopGhost
import Derived.Laws.AppendOwnNone
import Derived.Lib.SliceRun
namespace Go.Proofs.YtegbaocpacbljaaDoor.arena
open Go.RowKit

theorem infoInt : (Tryd.prog.info? 3).map (fun i => (i.zero, i.size, i.bytes)) = some (some (.int .i64 0), 1, 8) := by kernel_rfl
theorem nums_one (l : List Nat) : ∀ u ∈ nums l, u.oneCell' = true := by
  intro u hu
  obtain ⟨y, -, rfl⟩ := List.mem_map.1 hu
  rfl

set_option maxHeartbeats 1000000 in
theorem clone_any {B : Nat} {v : Value} {l : List Nat} (w : World) (h : w.ownsRow B 3 1 v l.length (nums l)) (hl : l.length ≤ 1000000) :
    Calls Tryd.prog 34 #[v] w fun e w' => ∃ a c, e = .returned (.slice a l.length c) ∧ Aside (w'.ownsRow w.heap.size 3 1 (.slice a l.length c) l.length (nums l) ∧ Below w.heap.size w w') := by
  obtain ⟨j0, hj, hy0, hy1, hy2⟩ := info_parts infoInt
  have hE := fun (W : World) (a : Option Addr) (n c : Nat) => Lib.run_eql_slice_nil (P := Tryd.prog) W 27 3 a n c 0 0 Tryd.underlying27
  rcases own_form h with ⟨rfl, h2, h3⟩ | ⟨g, cap, rfl, h1, h2, h3, h4, h5, h6⟩
  · rw [h2, h3]
    clear h h2 h3
    go_enter Tryd.func34, Tryd.ntmps34
    go_wp2
    go_ret
    exact ⟨none, 0, rfl, World.ownsRow_nil _ _ _ _, Below.refl _ _⟩
  · have hc : ∀ j u, (nums l)[j]? = some u → (w.alloc (.cells #[] 3)).cell? ((⟨g, 0, none⟩ : Addr).add j) = some u := fun j u hu => (h.alloc _).cells rfl j u hu
    have HC := Lib.hid hc
    clear hc h h5 h6
    go_enter Tryd.func34, Tryd.ntmps34
    go_wp2_with (at_builtin; refine wpList_append_own _ rfl _ _ 27 rfl w.heap.size 3 j0 _ 1 8 Tryd.underlying27 hj hy0 hy1 hy2 rfl (by decide) (.slice (some ⟨w.heap.size, 0, none⟩) 0 0) 0 [] rfl (World.ownsRow_lit w #[] 0 (Nat.le_refl _) (by unfold maxLen; omega) rfl) ⟨g, 0, none⟩ l.length cap (nums l) rfl (by rw [nums_length, Nat.mul_one]) HC.out (nums_one l) (by unfold maxLen; omega) (by omega) (by simp) ?_; intro v' w1 hown hgrow hx; have hb : Below w.heap.size w w1 := ((Below.refl w.heap.size w).alloc (Nat.le_refl _) _).grown hgrow (by simp) (fun q hq => by simp [Value.ownBlock] at hq; omega); rw [Nat.zero_add, List.nil_append] at hown; obtain ⟨a', c', hv, -⟩ := form_of hown; subst hv; clear hgrow hx)
    go_ret
    exact ⟨_, _, rfl, hown, hb⟩
end Go.Proofs.YtegbaocpacbljaaDoor.arena
