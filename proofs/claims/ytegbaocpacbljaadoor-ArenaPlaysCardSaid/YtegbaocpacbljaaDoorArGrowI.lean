/- Add of a tree whose rows of numbers are those beneath each: so they are behind it. -/
import Derived.Test.YtegbaocpacbljaaDoorArAddI
import Derived.Test.YtegbaocpacbljaaDoorArMath
namespace Go.Proofs.YtegbaocpacbljaaDoor.arenaI
open Go.RowKit Go.Proofs.YtegbaocpacbljaaDoor.arena
variable {w : World} {B tb : Nat} {most : Int} {nv : Value} {n : Nat} {V : Nat → Int} {U : Nat → Int} {K : Nat → Value}

theorem Tr.goes {C : Nat → List Nat} {w' : World} (h : Tr w B tb most nv n V U K C) (hB : B ≤ w.heap.size) (hm : Mv (Foot tb nv n K) w w') : Below B w w' := hm.below (fun k hk => (h.foot_lt hk).1) hB
theorem ok_root (U : Nat → Int) : Ok 1 (upd U 0 (-1)) := ⟨fun _ => rfl, fun i h0 h1 => by omega⟩
theorem ok_kid {u : Nat} (h : Ok n U) (hu : u < n) : Ok (n + 1) (upd U n (u : Int)) := by
  refine ⟨fun _ => ?_, fun i h0 h1 => ?_⟩
  · rw [upd_other _ _ (by omega)]; exact h.1 (by omega)
  · by_cases e : i = n
    · subst e; exact ⟨u, upd_same _ _ _, hu⟩
    · rw [upd_other _ _ e]; exact h.2 i h0 (by omega)
theorem kids_root (U : Nat → Int) (C : Nat → List Nat) (i : Nat) (hi : i < 1) : upd C 0 [] i = kidsOf 1 (upd U 0 (-1)) i := by
  obtain rfl : i = 0 := by omega
  rfl
theorem kids_kid {u : Nat} (h : Ok n U) (hu : u < n) (i : Nat) (hi : i < n + 1) : upd (upd (kidsOf n U) u (kidsOf n U u ++ [n])) n [] i = kidsOf (n + 1) (upd U n (u : Int)) i := by
  have ec : ∀ j, kidsOf n (upd U n (u : Int)) j = kidsOf n U j := fun j => kidsOf_congr (fun k hk => upd_other _ _ (by omega)) j
  rw [kidsOf_succ, ec, upd_same]
  by_cases e : i = n
  · subst e
    rw [upd_same, if_neg (by omega), List.append_nil]
    symm
    refine List.eq_nil_iff_forall_not_mem.2 fun j hj => ?_
    obtain ⟨h0, h1, h2⟩ := kidsOf_mem hj
    obtain ⟨v, h3, h4⟩ := h.2 j h0 h1
    omega
  · rw [upd_other _ _ e]
    by_cases e2 : i = u
    · subst e2
      rw [upd_same, if_pos ⟨by omega, rfl⟩]
    · rw [upd_other _ _ e2, if_neg (by omega), List.append_nil]

theorem grow_root (x : Int) (h : Tr w B tb most nv 0 V U K (kidsOf 0 U)) (hB : B ≤ w.heap.size) (hm : 0 < most) :
    Calls Tryd.prog 10 #[.pointer (some ⟨tb, 0, none⟩), .int .i64 (-1), .int .i64 x] w fun e w' => ∃ nv' K', e = .returned (.tuple #[.int .i64 0, .nilIface]) ∧
      Aside (Tr w' B tb most nv' 1 (upd V 0 x) (upd U 0 (-1)) K' (kidsOf 1 (upd U 0 (-1))) ∧ Mv (Foot tb nv 0 K) w w' ∧ ∀ k, Foot tb nv' 1 K' k → Foot tb nv 0 K k ∨ w.heap.size ≤ k) :=
  (add_root x h hB hm).mono fun _ _ ⟨nv', e, t, m, f⟩ => ⟨nv', _, e, t.congr fun i hi => ⟨rfl, rfl, rfl, kids_root U _ i hi⟩, m, f⟩
theorem grow_kid (x : Int) (u : Nat) (h : Tr w B tb most nv n V U K (kidsOf n U)) (hU : Ok n U) (hB : B ≤ w.heap.size) (hu : u < n) (hm : (n : Int) < most) (hn : n ≤ 100000) :
    Calls Tryd.prog 10 #[.pointer (some ⟨tb, 0, none⟩), .int .i64 (u : Int), .int .i64 x] w fun e w' => ∃ nv' K', e = .returned (.tuple #[.int .i64 n, .nilIface]) ∧
      Aside (Tr w' B tb most nv' (n + 1) (upd V n x) (upd U n u) K' (kidsOf (n + 1) (upd U n u)) ∧ Mv (Foot tb nv n K) w w' ∧ ∀ k, Foot tb nv' (n + 1) K' k → Foot tb nv n K k ∨ w.heap.size ≤ k) :=
  (add_kid x u h hB hu hm hn (kidsOf_length n U u)).mono fun _ _ ⟨nv', kv, e, t, m, f⟩ => ⟨nv', _, e, t.congr fun i hi => ⟨rfl, rfl, rfl, kids_kid hU hu i hi⟩, m, f⟩
end Go.Proofs.YtegbaocpacbljaaDoor.arenaI
