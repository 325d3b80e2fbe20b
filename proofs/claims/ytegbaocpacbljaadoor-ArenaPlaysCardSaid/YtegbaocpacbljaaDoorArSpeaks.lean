/- The document's example of layer 5: it is as the document says, and what was there stays. -/
import Derived.Test.YtegbaocpacbljaaDoorArGrowS
import Derived.Test.YtegbaocpacbljaaDoorArWalkS
import Derived.Test.YtegbaocpacbljaaDoorArKidsS
namespace Go.Proofs.YtegbaocpacbljaaDoor.arenaS
open Go.RowKit Go.Proofs.YtegbaocpacbljaaDoor.arena

def U4 : Nat → Int := upd (upd (upd (upd (fun _ => 0) 0 (-1)) 1 ((0 : Nat) : Int)) 2 ((1 : Nat) : Int)) 3 ((0 : Nat) : Int)
theorem ok4 : Ok 4 U4 := by
  refine ⟨fun _ => rfl, fun i h0 h4 => ?_⟩
  obtain rfl | rfl | rfl : i = 1 ∨ i = 2 ∨ i = 3 := by omega
  · exact ⟨0, rfl, by omega⟩
  · exact ⟨1, rfl, by omega⟩
  · exact ⟨0, rfl, by omega⟩
theorem walk4 : walk 4 (kidsOf 4 U4) 0 = [0, 1, 2, 3] := by decide
theorem kids4 : kidsOf 4 U4 0 = [1, 3] := by decide

theorem rd_lit (w : World) (l : List Nat) (cs : Array Value) (hc : cs.toList = nums l) (hl : l.length ≤ 1000) : Rd (w.alloc (.cells cs 3)) (.slice (some ⟨w.heap.size, 0, none⟩) l.length l.length) l := by
  have h := World.ownsRow_lit (base := w.heap.size) (e := 3) (size := 1) w cs l.length (Nat.le_refl _) (by unfold maxLen; omega) (by rw [← Array.length_toList, hc, nums_length, Nat.mul_one])
  rw [hc] at h
  exact Rd.of_own h

/-- A tree that the call itself has made. -/
def Mine (w : World) (n : Nat) (U : Nat → Int) (w' : World) : Prop :=
  ∃ nv V K, Tr w' w.heap.size w.heap.size 9 nv n V U K (kidsOf n U) ∧ Below w.heap.size w w'
theorem mine_new (w : World) : Calls Tryd.prog 14 #[.int .i64 9] w fun e w' => e = .returned (.pointer (some ⟨w.heap.size, 0, none⟩)) ∧ Mine w 0 (fun _ => 0) w' :=
  (new_any 9 w).mono fun e w' ⟨he, hw⟩ => ⟨he, by subst hw; exact ⟨_, fun _ => ⟨#[]⟩, fun _ => .slice none 0 0, tr_new w 9 _ _ _ _, (Below.refl _ w).alloc (Nat.le_refl _) _⟩⟩
theorem mine_root {w w' : World} (x : ByteArray) (h : Mine w 0 (fun _ => 0) w') : Calls Tryd.prog 15 #[.pointer (some ⟨w.heap.size, 0, none⟩), .int .i64 (-1), .string x] w' fun e w2 => e = .returned (.tuple #[.int .i64 0, .nilIface]) ∧ Mine w 1 (upd (fun _ => 0) 0 (-1)) w2 := by
  obtain ⟨nv, V, K, t, b⟩ := h
  exact (grow_root x t b.size (by decide)).mono fun _ _ ⟨nv', K', e, t', m, _⟩ => ⟨e, nv', _, K', t', b.trans (t.goes b.size m)⟩
theorem mine_kid {w w' : World} {n : Nat} {U : Nat → Int} (x : ByteArray) (u : Nat) (h : Mine w n U w') (hU : Ok n U) (hu : u < n) (hn : n < 9) : Calls Tryd.prog 15 #[.pointer (some ⟨w.heap.size, 0, none⟩), .int .i64 (u : Int), .string x] w' fun e w2 => e = .returned (.tuple #[.int .i64 n, .nilIface]) ∧ Mine w (n + 1) (upd U n u) w2 := by
  obtain ⟨nv, V, K, t, b⟩ := h
  exact (grow_kid x u t hU b.size hu (by omega) (by omega)).mono fun _ _ ⟨nv', K', e, t', m, _⟩ => ⟨e, nv', _, K', t', b.trans (t.goes b.size m)⟩
theorem mine_walk {w w' : World} (h : Mine w 4 U4 w') : Calls Tryd.prog 17 #[.pointer (some ⟨w.heap.size, 0, none⟩), .int .i64 0] w' fun e w2 => ∃ a c, e = .returned (.slice a 4 c) ∧ Aside (Rd w2 (.slice a 4 c) [0, 1, 2, 3] ∧ Mine w 4 U4 w2) := by
  obtain ⟨nv, V, K, t, b⟩ := h
  have W := walk_yes t ok4 0 (by decide) (by decide)
  rw [walk4] at W
  exact W.mono fun _ _ ⟨a, c, e, ho, hb⟩ => ⟨a, c, e, Rd.of_own ho, nv, V, K, t.below hb, b.trans (hb.mono b.size)⟩
theorem mine_kids {w w' : World} (h : Mine w 4 U4 w') : Calls Tryd.prog 18 #[.pointer (some ⟨w.heap.size, 0, none⟩), .int .i64 0] w' fun e w2 => ∃ a c, e = .returned (.slice a 2 c) ∧ Aside (Rd w2 (.slice a 2 c) [1, 3] ∧ Mine w 4 U4 w2) := by
  obtain ⟨nv, V, K, t, b⟩ := h
  have W := kids_yes t 0 (by decide) (by rw [kids4]; decide)
  rw [kids4] at W
  exact W.mono fun _ _ ⟨a, c, e, ho, hb⟩ => ⟨a, c, e, Rd.of_own ho, nv, V, K, t.below hb, b.trans (hb.mono b.size)⟩
theorem Mine.below {w w1 w2 : World} {n : Nat} {U : Nat → Int} (h : Mine w n U w1) (hb : Below w1.heap.size w1 w2) : Mine w n U w2 := by
  obtain ⟨nv, V, K, t, b⟩ := h
  exact ⟨nv, V, K, t.below hb, b.trans (hb.mono b.size)⟩
theorem Mine.frame {w w1 : World} {n : Nat} {U : Nat → Int} (h : Mine w n U w1) : Below w.heap.size w w1 := by
  obtain ⟨nv, V, K, t, b⟩ := h
  exact b

set_option maxHeartbeats 4000000 in
theorem speaks_any (w : World) : Calls Tryd.prog 4 #[] w fun e w' => e = .returned (.bool true) ∧ Below w.heap.size w w' := by
  have N := mine_new w
  go_enter Tryd.func4, Tryd.ntmps4
  go_wp2_with fail
  refine N.mono ?_; rintro e w0 ⟨rfl, h0⟩
  go_wp2_with fail
  refine (mine_root ⟨#[97]⟩ h0).mono ?_; rintro e w1 ⟨rfl, h1⟩
  go_wp2_with fail
  refine (mine_kid ⟨#[98]⟩ 0 h1 (ok_root _) (by decide) (by decide)).mono ?_; rintro e w2 ⟨rfl, h2⟩
  go_wp2_with fail
  refine (mine_kid ⟨#[99]⟩ 1 h2 (ok_kid (ok_root _) (by decide)) (by decide) (by decide)).mono ?_; rintro e w3 ⟨rfl, h3⟩
  go_wp2_with fail
  refine (mine_kid ⟨#[100]⟩ 0 h3 (ok_kid (ok_kid (ok_root _) (by decide)) (by decide)) (by decide) (by decide)).mono ?_; rintro e w4 ⟨rfl, h4⟩
  have h4 : Aside (Mine w 4 U4 w4) := h4
  go_wp2_with fail
  refine (mine_walk h4.out).mono ?_; rintro e w5 ⟨a, c, rfl, h5⟩
  go_wp2_with fail
  refine (same_true _ (h5.out.1.below ((Below.refl _ w5).alloc (Nat.le_refl _) _)) (rd_lit w5 [0, 1, 2, 3] _ rfl (by decide)) (by decide)).mono ?_; rintro e w6 ⟨rfl, h6⟩
  have h6 : Aside (Mine w 4 U4 w6) := (h5.out.2.below ((Below.refl _ w5).alloc (Nat.le_refl _) _)).below h6
  go_wp2_with fail
  refine (mine_kids h6.out).mono ?_; rintro e w7 ⟨a', c', rfl, h7⟩
  go_wp2_with fail
  refine (same_true _ (h7.out.1.below ((Below.refl _ w7).alloc (Nat.le_refl _) _)) (rd_lit w7 [1, 3] _ rfl (by decide)) (by decide)).mono ?_; rintro e w8 ⟨rfl, h8⟩
  have h8 : Aside (Mine w 4 U4 w8) := (h7.out.2.below ((Below.refl _ w7).alloc (Nat.le_refl _) _)).below h8
  go_wp2_with fail
  go_ret
  exact ⟨rfl, h8.out.frame⟩
end Go.Proofs.YtegbaocpacbljaaDoor.arenaS
