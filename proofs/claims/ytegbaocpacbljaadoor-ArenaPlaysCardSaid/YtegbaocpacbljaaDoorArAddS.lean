/- Add of a tree, where it takes the value. -/
import Derived.Test.YtegbaocpacbljaaDoorArMemS
import Derived.Test.YtegbaocpacbljaaDoorArLenS
import Derived.Deep.RegionHeld3
import Derived.OwnWalk
import Derived.Deep.RegionLaw
import Derived.Deep.DrawnRows
import Derived.Deep.DeepCutAuto
import Derived.Deep.LoopGhost
namespace Go.Proofs.YtegbaocpacbljaaDoor.arenaS
open Go.RowKit Go.Proofs.YtegbaocpacbljaaDoor.arena
attribute [local go_sem ↓] Go.wp_at_zero Go.wp_at_succ
variable {w : World} {B tb : Nat} {most : Int} {nv : Value} {n : Nat} {V : Nat → ByteArray} {U : Nat → Int} {K : Nat → Value} {C : Nat → List Nat}

theorem infoNode : (Tryd.prog.info? 69).map (fun i => (i.zero.map (·.cells.size), i.size, i.bytes)) = some (some 3, 3, 48) := by kernel_rfl
theorem info_node : ∃ i z, Tryd.prog.info? 69 = some i ∧ i.zero = some z ∧ i.size = 3 ∧ i.bytes = 48 ∧ z.cells.size = 3 := by
  have h := infoNode
  cases hi : Tryd.prog.info? 69 with
  | none => rw [hi] at h; cases h
  | some i =>
    rw [hi] at h
    simp only [Option.map_some, Option.some.injEq, Prod.mk.injEq] at h
    cases hz : i.zero with
    | none => rw [hz] at h; cases h.1
    | some z =>
      rw [hz] at h
      exact ⟨i, z, rfl, hz, h.2.1, h.2.2, by simpa using h.1⟩
theorem infoInt : (Tryd.prog.info? 3).map (fun i => (i.zero, i.size, i.bytes)) = some (some (.int .i64 0), 1, 8) := by kernel_rfl

set_option maxRecDepth 100000 in
set_option maxHeartbeats 1000000 in
theorem add_root (x : ByteArray) (h : Tr w B tb most nv 0 V U K C) (hB : B ≤ w.heap.size) (hm : 0 < most) :
    Calls Tryd.prog 15 #[.pointer (some ⟨tb, 0, none⟩), .int .i64 (-1), .string x] w fun e w' => ∃ nv', e = .returned (.tuple #[.int .i64 0, .nilIface]) ∧
      Tr w' B tb most nv' 1 (upd V 0 x) (upd U 0 (-1)) (upd K 0 (.slice none 0 0)) (upd C 0 []) ∧ Mv (Foot tb nv 0 K) w w' ∧ ∀ k, Foot tb nv' 1 (upd K 0 (.slice none 0 0)) k → Foot tb nv 0 K k ∨ w.heap.size ≤ k := by
  obtain ⟨i0, z0, hi, hz0, hz1, hz2, hz3⟩ := info_node
  have L := len_any h
  have c0 := h.c0
  have c1 := h.c1
  have f1 := h.f1 1
  have hH : Aside (Tr w B tb most nv 0 V U K C) := h
  obtain ⟨a, cap, rfl⟩ := h.form
  have hlt := h.lt
  clear h
  go_enter Tryd.func15, Tryd.ntmps15
  go_wp2_with fail
  refine L.mono ?_; rintro e w' ⟨rfl, rfl⟩
  have hO : (w.alloc (.cells #[.string x, .int .i64 (-1), .slice none 0 0] 69)).ownsRow B 69 3 (.slice a 0 cap) 0 (flat 0 V U K) := hH.out.own.alloc _
  go_wp2_with (at_builtin; refine wpList_append_lies _ rfl _ _ 65 rfl B 69 i0 z0 3 48 Tryd.underlying65 hi hz0 hz1 hz2 hz3 (by decide) (.slice a 0 cap) 0 (flat 0 V U K) rfl hO ⟨w.heap.size, 0, none⟩ 1 1 [.string x, .int .i64 (-1), .slice none 0 0] rfl rfl (World.news_of_block (cs := #[.string x, .int .i64 (-1), .slice none 0 0]) (t := 69) (fr := (0, 0)) (heap_alloc_new w _)) (by simp [Value.oneCell']) (by decide) (by decide) (by decide) (by simp; omega) (w.heap.size + 1) (by simp) ?_; intro g cap1 w1 hown hgrow hat hl1; obtain ⟨c2, f2, hT⟩ := hH.out.nodeStep _ x (-1) hown hgrow hat; clear hown hgrow hat hl1)
  go_ret2
  exact ⟨_, rfl, hT.out⟩

theorem own_snoc {B : Nat} {l : List Nat} {m : Nat} {v : Value} (h : w.ownsRow B 3 1 v (l.length + 1) (nums l ++ [.int .i64 (m : Int)])) : w.ownsRow B 3 1 v (l ++ [m]).length (nums (l ++ [m])) := by
  rw [nums_append, List.length_append]
  exact h

set_option maxRecDepth 100000 in
set_option maxHeartbeats 1000000 in
theorem add_kid (x : ByteArray) (u : Nat) (h : Tr w B tb most nv n V U K C) (hB : B ≤ w.heap.size) (hu : u < n) (hm : (n : Int) < most) (hn : n ≤ 100000) (hC : (C u).length ≤ n) :
    Calls Tryd.prog 15 #[.pointer (some ⟨tb, 0, none⟩), .int .i64 (u : Int), .string x] w fun e w' => ∃ nv' kv, e = .returned (.tuple #[.int .i64 n, .nilIface]) ∧
      Tr w' B tb most nv' (n + 1) (upd V n x) (upd U n u) (upd (upd K u kv) n (.slice none 0 0)) (upd (upd C u (C u ++ [n])) n []) ∧ Mv (Foot tb nv n K) w w' ∧ ∀ k, Foot tb nv' (n + 1) (upd (upd K u kv) n (.slice none 0 0)) k → Foot tb nv n K k ∨ w.heap.size ≤ k := by
  obtain ⟨i0, z0, hi, hz0, hz1, hz2, hz3⟩ := info_node
  obtain ⟨j0, hj, hy0, hy1, hy2⟩ := info_parts infoInt
  have L := len_any h
  have T := there_yes h u hu
  obtain ⟨nb, cap, rfl, k1, k2, k3, k4, k5, k6⟩ := h.row hu
  have c0 := h.c0
  have c1 := h.c1
  have f1 := h.f1 1
  obtain ⟨-, -, c2⟩ := k5 u hu
  have f2a : ((w.alloc (.cells #[.int .i64 n] 3)).drew).frozen? ⟨nb, u * 3 + 2, none⟩ = false := (World.frozen?_of_block (Below.heap_alloc w _ nb k4)).trans (k6 (u * 3 + 2))
  obtain ⟨ka, kc, hk⟩ := h.kform hu
  have c1a : ((w.alloc (.cells #[.int .i64 n] 3)).drew).cell? ⟨tb, 1, none⟩ = some (.slice (some ⟨nb, 0, none⟩) n cap) := by rw [← c1]; exact World.cell?_of_block (Below.heap_alloc w _ tb h.lt)
  have c2a : ((w.alloc (.cells #[.int .i64 n] 3)).drew).cell? ⟨nb, u * 3 + 2, none⟩ = some (.slice ka (C u).length kc) := by rw [← hk, ← c2]; exact World.cell?_of_block (Below.heap_alloc w _ nb k4)
  have hH : Aside (Tr w B tb most (.slice (some ⟨nb, 0, none⟩) n cap) n V U K C) := h
  have hO := h.kid u hu
  rw [hk] at c2 hO
  have hlt := h.lt
  have n1 : nb ≠ tb := fun e => h.a1 (by rw [e]; rfl)
  have a2 := h.a2 u hu
  have a3 : (K u).ownBlock ≠ some nb := fun e => h.a3 u nb hu e rfl
  rw [hk] at a2 a3
  have HK : Hid (K u = .slice ka (C u).length kc) := hk
  have x0 : (0 : Int) ≤ (u : Int) := by omega
  have x1 : (u : Int) < (n : Int) := by omega
  have x2 : (0 : Int) < (n : Int) := by omega
  have x3 : ¬ (n : Int) = 0 := by omega
  clear h k5 k6 hk
  go_enter Tryd.func15, Tryd.ntmps15
  go_wp2_with fail
  refine L.mono ?_; rintro e w' ⟨rfl, rfl⟩
  go_wp2_with fail
  refine T.mono ?_; rintro e w' ⟨rfl, rfl⟩
  go_upto_region 8 with fail
  go_cut [] (fun wx => ∃ kv, Tr wx B tb most (.slice (some ⟨nb, 0, none⟩) n cap) n V U (upd K u kv) (upd C u (C u ++ [n])) ∧ Mv (Foot tb (.slice (some ⟨nb, 0, none⟩) n cap) n K) w wx ∧ ∀ k, Foot tb (.slice (some ⟨nb, 0, none⟩) n cap) n (upd K u kv) k → Foot tb (.slice (some ⟨nb, 0, none⟩) n cap) n K k ∨ w.heap.size ≤ k)
  case first =>
    go_region_law
        ((refine step_append_lies _ (by rfl) _ _ _ (by rfl) B 3 j0 _ 1 8 Tryd.underlying27 hj hy0 hy1 hy2 rfl (by omega) (.slice ka (C u).length kc) (C u).length (nums (C u)) (by rfl) ((hO.alloc _).drew) ⟨w.heap.size, 0, none⟩ 1 1 [.int .i64 n] (by rfl) (by rfl) (World.news_of_block (cs := #[.int .i64 n]) (t := 3) (fr := (0, 0)) (heap_alloc_new w _)) (by simp [Value.oneCell']) (by omega) (by unfold maxLen; omega) (by omega) (by simp; omega) (w.heap.size + 1) (by simp) ?_; intro g1 cap1 w1 hown hgrow hat hl1; have f3 : w1.frozen? ⟨nb, u * 3 + 2, none⟩ = false := (hgrow.frozen_far _ (by simp; omega) (Ne.symm a3)).trans f2a; have c3 : w1.cell? ⟨nb, u * 3 + 2, none⟩ = some (.slice ka (C u).length kc) := (hgrow.cell_far _ (by simp; omega) (Ne.symm a3)).trans c2a; have d1 : w1.cell? ⟨tb, 1, none⟩ = some (.slice (some ⟨nb, 0, none⟩) n cap) := (hgrow.cell_far _ (by simp; omega) (Ne.symm a2)).trans c1a))
    all_goals
      go_wp2_with fail
      go_meet
      exact ⟨_, hH.out.kidStep hu (.cells #[.int .i64 n] 3) (C u ++ [n]) (own_snoc hown) (by rw [HK.out]; exact ⟨hgrow.os, hgrow.tape, hgrow.output, hgrow.size, hgrow.block⟩) (by rw [HK.out]; exact hat)⟩
  case rest =>
    obtain ⟨kv, hT, hM, hF⟩ := hcut
    have HF := Lib.hid hF
    clear hF
    have d1 := hT.c1
    have hs := hM.size
    have hO2 : (wc.alloc (.cells #[.string x, .int .i64 (u : Int), .slice none 0 0] 69)).ownsRow B 69 3 (.slice (some ⟨nb, 0, none⟩) n cap) n (flat n V U (upd K u kv)) := hT.own.alloc _
    clear hO L T c1a c2a f2a
    go_wp2_with (at_builtin; refine wpList_append_lies _ rfl _ _ 65 rfl B 69 i0 z0 3 48 Tryd.underlying65 hi hz0 hz1 hz2 hz3 (by decide) (.slice (some ⟨nb, 0, none⟩) n cap) n (flat n V U (upd K u kv)) rfl hO2 ⟨wc.heap.size, 0, none⟩ 1 1 [.string x, .int .i64 (u : Int), .slice none 0 0] rfl rfl (World.news_of_block (cs := #[.string x, .int .i64 (u : Int), .slice none 0 0]) (t := 69) (fr := (0, 0)) (heap_alloc_new wc _)) (by simp [Value.oneCell']) (by decide) (by unfold maxLen; omega) (by omega) (by simp; omega) (wc.heap.size + 1) (by simp) ?_; intro g cap1 w1 hown hgrow hat hl1; obtain ⟨e2, g2, hT2⟩ := hT.nodeStep _ x (u : Int) hown hgrow hat; clear hown hgrow hat hl1)
    go_ret2
    exact ⟨_, kv, rfl, hT2.out.1, hM.trans hT2.out.2.1 HF.out, fun k hk => (hT2.out.2.2 k hk).elim (HF.out k) (fun h => .inr (Nat.le_trans hs h))⟩
end Go.Proofs.YtegbaocpacbljaaDoor.arenaS
