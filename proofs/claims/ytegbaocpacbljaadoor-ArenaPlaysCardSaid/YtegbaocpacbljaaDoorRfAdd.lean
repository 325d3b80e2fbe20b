/- Add of the document's tree. -/
import Derived.Test.YtegbaocpacbljaaDoorRfTr
import Derived.Test.YtegbaocpacbljaaDoorArMemI
import Derived.Deep.Draws
import Derived.Deep.DeepCutAuto
set_option linter.unusedSimpArgs false
namespace Go.Proofs.YtegbaocpacbljaaDoor.rf
open Go.RowKit Go.Proofs.YtegbaocpacbljaaDoor.arena
open Go.Proofs.YtegbaocpacbljaaDoor.arenaI (upd upd_same upd_other)

/-- As Rt, the two rows of lengths of their own. -/
structure Rh (w : World) (B mb : Nat) (most : Int) (vv uv : Value) (a b : Nat) (V U : Nat → Int) : Prop where
  base : B ≤ mb
  head : w.heap[mb]? = some (.cells #[vv, uv, .int .i64 most] 29 (0, 0))
  vrow : w.ownsRow B 3 1 vv a (ints a V)
  urow : w.ownsRow B 3 1 uv b (ints b U)
  apart : ∀ g, vv.ownBlock = some g → uv.ownBlock ≠ some g
variable {w w1 : World} {B mb : Nat} {most : Int} {vv uv : Value} {n a b : Nat} {V U : Nat → Int}
theorem Rh.of_rt (h : Rt w B mb most vv uv n V U) : Rh w B mb most vv uv n n V U := ⟨h.base, h.head, h.vrow, h.urow, h.apart⟩
theorem Rh.rt (h : Rh w B mb most vv uv n n V U) : Rt w B mb most vv uv n V U := ⟨h.base, h.head, h.vrow, h.urow, h.apart⟩
theorem Rh.c0 (h : Rh w B mb most vv uv a b V U) : w.cell? ⟨mb, 0, none⟩ = some vv := by simp [World.cell?, h.head]
theorem Rh.c1 (h : Rh w B mb most vv uv a b V U) : w.cell? ⟨mb, 1, none⟩ = some uv := by simp [World.cell?, h.head]
theorem Rh.fr (h : Rh w B mb most vv uv a b V U) (j : Nat) : w.frozen? ⟨mb, j, none⟩ = false := by simp [World.frozen?, h.head]
theorem Rh.lt (h : Rh w B mb most vv uv a b V U) : mb < w.heap.size := (Array.getElem?_eq_some_iff.1 h.head).1
theorem ints_push (n : Nat) (V : Nat → Int) (x : Int) : ints (n + 1) (upd V n x) = ints n V ++ [.int .i64 x] := by
  rw [ints_succ, upd_same, ints_congr fun i hi => upd_other V x (show i ≠ n by omega)]

theorem Rh.vstep {g cap : Nat} (h : Rh w B mb most vv uv a b V U) (o : Obj) (x : Int)
    (hown : w1.ownsRow B 3 1 (.slice (some ⟨g, 0, none⟩) (a + 1) cap) (a + 1) (ints a V ++ [.int .i64 x])) (hgrow : (w.alloc o).grownBy w1 vv.ownBlock) (hat : vv.ownBlock = some g ∨ g = w.heap.size + 1) :
    w1.cell? ⟨mb, 0, none⟩ = some vv ∧ w1.frozen? ⟨mb, 0, none⟩ = false ∧ Aside (Rh (w1.setCell ⟨mb, 0, none⟩ (.slice (some ⟨g, 0, none⟩) (a + 1) cap)) B mb most (.slice (some ⟨g, 0, none⟩) (a + 1) cap) uv (a + 1) b (upd V a x) U ∧
      Mv (Foot mb vv uv) w (w1.setCell ⟨mb, 0, none⟩ (.slice (some ⟨g, 0, none⟩) (a + 1) cap)) ∧ ∀ k, Foot mb (.slice (some ⟨g, 0, none⟩) (a + 1) cap) uv k → Foot mb vv uv k ∨ w.heap.size ≤ k) := by
  have hlt := h.lt
  have hne : vv.ownBlock ≠ some mb := row_ne h.head h.vrow
  have une : uv.ownBlock ≠ some mb := row_ne h.head h.urow
  have s0 : ∀ k, k < w.heap.size → vv.ownBlock ≠ some k → w1.heap[k]? = w.heap[k]? := fun k hk h1 => (hgrow.block k (by rw [World.size_alloc]; omega) (fun e => h1 e.symm)).trans (Below.heap_alloc w o k hk)
  have n1 : g ≠ mb := fun e => by
    subst e
    rcases hat with hat | hat
    · exact hne hat
    · omega
  have s1 : ∀ k, k < w.heap.size → vv.ownBlock ≠ some k → k ≠ mb → (w1.setCell ⟨mb, 0, none⟩ (.slice (some ⟨g, 0, none⟩) (a + 1) cap)).heap[k]? = w.heap[k]? := fun k hk h1 h2 =>
    (Below.heap_setCell w1 _ _ k (by simpa using h2)).trans (s0 k hk h1)
  have hh : w1.heap[mb]? = some (.cells #[vv, uv, .int .i64 most] 29 (0, 0)) := (s0 mb hlt hne).trans h.head
  refine ⟨by simp [World.cell?, hh], by simp [World.frozen?, hh], ⟨h.base, heap_setCell_same w1 mb 0 _ _ _ hh, ?_, ?_, ?_⟩, ?_, ?_⟩
  · rw [ints_push]
    exact own_of_block hown fun k hk => Below.heap_setCell w1 _ _ k (by
      obtain rfl : g = k := by simpa [Value.ownBlock] using hk
      simpa using n1)
  · exact own_of_block h.urow fun k hk => s1 k (h.urow.lt k hk).2 (fun e => h.apart k e hk) (fun e => une (by rw [← e]; exact hk))
  · intro k hk e
    obtain rfl : g = k := by simpa [Value.ownBlock] using hk
    rcases hat with hat | hat
    · exact h.apart g hat e
    · have := (h.urow.lt g e).2; omega
  · exact ((Mv.of_alloc w o _).trans (Mv.of_grown (F := Foot mb vv uv) hgrow fun k hk => .inl (.inr (.inl hk))) fun k hk => .inl hk).trans (Mv.of_set w1 _ _ (.inl (show Foot mb vv uv mb from .inl rfl))) fun k hk => .inl hk
  · rintro k (rfl | hk | hk)
    · exact .inl (.inl rfl)
    · obtain rfl : g = k := by simpa [Value.ownBlock] using hk
      exact hat.imp (fun e => .inr (.inl e)) (fun e => by omega)
    · exact .inl (.inr (.inr hk))
theorem Rh.ustep {g cap : Nat} (h : Rh w B mb most vv uv a b V U) (o : Obj) (x : Int)
    (hown : w1.ownsRow B 3 1 (.slice (some ⟨g, 0, none⟩) (b + 1) cap) (b + 1) (ints b U ++ [.int .i64 x])) (hgrow : (w.alloc o).grownBy w1 uv.ownBlock) (hat : uv.ownBlock = some g ∨ g = w.heap.size + 1) :
    w1.cell? ⟨mb, 1, none⟩ = some uv ∧ w1.frozen? ⟨mb, 1, none⟩ = false ∧ Aside (Rh (w1.setCell ⟨mb, 1, none⟩ (.slice (some ⟨g, 0, none⟩) (b + 1) cap)) B mb most vv (.slice (some ⟨g, 0, none⟩) (b + 1) cap) a (b + 1) V (upd U b x) ∧
      Mv (Foot mb vv uv) w (w1.setCell ⟨mb, 1, none⟩ (.slice (some ⟨g, 0, none⟩) (b + 1) cap)) ∧ ∀ k, Foot mb vv (.slice (some ⟨g, 0, none⟩) (b + 1) cap) k → Foot mb vv uv k ∨ w.heap.size ≤ k) := by
  have hlt := h.lt
  have hne : uv.ownBlock ≠ some mb := row_ne h.head h.urow
  have vne : vv.ownBlock ≠ some mb := row_ne h.head h.vrow
  have s0 : ∀ k, k < w.heap.size → uv.ownBlock ≠ some k → w1.heap[k]? = w.heap[k]? := fun k hk h1 => (hgrow.block k (by rw [World.size_alloc]; omega) (fun e => h1 e.symm)).trans (Below.heap_alloc w o k hk)
  have n1 : g ≠ mb := fun e => by
    subst e
    rcases hat with hat | hat
    · exact hne hat
    · omega
  have s1 : ∀ k, k < w.heap.size → uv.ownBlock ≠ some k → k ≠ mb → (w1.setCell ⟨mb, 1, none⟩ (.slice (some ⟨g, 0, none⟩) (b + 1) cap)).heap[k]? = w.heap[k]? := fun k hk h1 h2 =>
    (Below.heap_setCell w1 _ _ k (by simpa using h2)).trans (s0 k hk h1)
  have hh : w1.heap[mb]? = some (.cells #[vv, uv, .int .i64 most] 29 (0, 0)) := (s0 mb hlt hne).trans h.head
  refine ⟨by simp [World.cell?, hh], by simp [World.frozen?, hh], ⟨h.base, heap_setCell_same w1 mb 1 _ _ _ hh, ?_, ?_, ?_⟩, ?_, ?_⟩
  · exact own_of_block h.vrow fun k hk => s1 k (h.vrow.lt k hk).2 (fun e => h.apart k hk e) (fun e => vne (by rw [← e]; exact hk))
  · rw [ints_push]
    exact own_of_block hown fun k hk => Below.heap_setCell w1 _ _ k (by
      obtain rfl : g = k := by simpa [Value.ownBlock] using hk
      simpa using n1)
  · intro k hk e
    obtain rfl : g = k := by simpa [Value.ownBlock] using e
    rcases hat with hat | hat
    · exact h.apart g hk hat
    · have := (h.vrow.lt g hk).2; omega
  · exact ((Mv.of_alloc w o _).trans (Mv.of_grown (F := Foot mb vv uv) hgrow fun k hk => .inl (.inr (.inr hk))) fun k hk => .inl hk).trans (Mv.of_set w1 _ _ (.inl (show Foot mb vv uv mb from .inl rfl))) fun k hk => .inl hk
  · rintro k (rfl | hk | hk)
    · exact .inl (.inl rfl)
    · exact .inl (.inr (.inl hk))
    · obtain rfl : g = k := by simpa [Value.ownBlock] using hk
      exact hat.imp (fun e => .inr (.inr e)) (fun e => by omega)

theorem add_name (h : Rt w B mb most vv uv n V U) (up x : Int) (hx : up < 0 ∨ (n : Int) ≤ up) (hr : 0 < n ∨ up ≠ -1) : Calls Tryd.prog 11 #[.pointer (some ⟨mb, 0, none⟩), .int .i64 up, .int .i64 x] w fun e w' => e = .returned (.tuple #[.int .i64 0, .int .i64 30]) ∧ w = w' := by
  have T := has_no h up hx
  have c0 := h.c0
  obtain ⟨va, vc, rfl, -, -⟩ := form_of h.vrow
  clear h hx
  by_cases hn : 0 < n
  · have y0 : (0 : Int) < (n : Int) := by omega
    clear hr
    go_enter Tryd.func11, Tryd.ntmps11
    go_wp2_with fail
    refine T.mono ?_; rintro e w' ⟨rfl, rfl⟩
    go_wp2_with fail
    go_ret2
    exact ⟨rfl, rfl⟩
  · obtain rfl : n = 0 := by omega
    have y0 : up ≠ -1 := by omega
    have y1 : (up != -1) = true := by simpa using y0
    clear hr hn
    go_enter Tryd.func11, Tryd.ntmps11
    go_wp2_with fail
    refine T.mono ?_; rintro e w' ⟨rfl, rfl⟩
    go_wp2_with fail
    go_ret2
    exact ⟨rfl, rfl⟩
theorem add_many (h : Rt w B mb most vv uv n V U) (up x : Int) (hr : (∃ u : Nat, up = (u : Int) ∧ u < n) ∨ n = 0 ∧ up = -1) (hm : most ≤ (n : Int)) : Calls Tryd.prog 11 #[.pointer (some ⟨mb, 0, none⟩), .int .i64 up, .int .i64 x] w fun e w' => e = .returned (.tuple #[.int .i64 0, .int .i64 15]) ∧ Below w.heap.size w w' := by
  have c0 := h.c0
  have c2 := h.c2
  rcases hr with ⟨u, rfl, hu⟩ | ⟨rfl, rfl⟩
  · have T := has_yes h u hu
    obtain ⟨va, vc, rfl, -, -⟩ := form_of h.vrow
    clear h
    go_enter Tryd.func11, Tryd.ntmps11
    go_wp2_with fail
    refine T.mono ?_; rintro e w' ⟨rfl, rfl⟩
    go_wp2_with fail
    go_quiet (fail)
    go_wp2_with fail
    go_ret2
    exact ⟨rfl, rfl, rfl, rfl, Nat.le_refl _, fun _ _ => rfl⟩
  · have T := has_no h (-1) (.inl (by omega))
    obtain ⟨va, vc, rfl, -, -⟩ := form_of h.vrow
    have hm2 : most ≤ 0 := by simpa using hm
    clear h
    go_enter Tryd.func11, Tryd.ntmps11
    go_wp2_with fail
    refine T.mono ?_; rintro e w' ⟨rfl, rfl⟩
    go_wp2_with fail
    go_quiet (fail)
    go_wp2_with fail
    go_ret2
    exact ⟨rfl, rfl, rfl, rfl, Nat.le_refl _, fun _ _ => rfl⟩

set_option maxRecDepth 100000 in
set_option maxHeartbeats 4000000 in
theorem add_ok (h : Rt w B mb most vv uv n V U) (hB : B ≤ w.heap.size) (up x : Int) (hr : (∃ u : Nat, up = (u : Int) ∧ u < n) ∨ n = 0 ∧ up = -1) (hm : (n : Int) < most) (hn : n ≤ 100000) :
    Calls Tryd.prog 11 #[.pointer (some ⟨mb, 0, none⟩), .int .i64 up, .int .i64 x] w fun e w' => ∃ vv' uv', e = .returned (.tuple #[.int .i64 n, .int .i64 0]) ∧
      Aside (Rt w' B mb most vv' uv' (n + 1) (upd V n x) (upd U n up) ∧ Mv (Foot mb vv uv) w w' ∧ ∀ k, Foot mb vv' uv' k → Foot mb vv uv k ∨ w.heap.size ≤ k) := by
  obtain ⟨j0, hj, hy0, hy1, hy2⟩ := info_parts infoInt
  have hH : Aside (Rt w B mb most vv uv n V U) := h
  have c0 := h.c0
  have c2 := h.c2
  rcases hr with ⟨u, rfl, hu⟩ | ⟨rfl, rfl⟩
  · have T := has_yes h u hu
    obtain ⟨va, vc, rfl, -, -⟩ := form_of h.vrow
    have y0 : (0 : Int) ≤ (u : Int) := by omega
    clear h
    go_enter Tryd.func11, Tryd.ntmps11
    go_wp2_with fail
    refine T.mono ?_; rintro e w' ⟨rfl, rfl⟩
    go_wp2_with fail
    go_quiet (fail)
    obtain ⟨w0, hw0⟩ : ∃ w0, w0 = w.drewN nq := ⟨_, rfl⟩
    rw [← hw0]
    have hM0 : Aside (Mv (fun _ => False) w w0) := by rw [hw0]; exact (Mv.refl _ w).drewN nq
    have h0 : Aside (Rh w0 B mb most (.slice va n vc) uv n n V U) := Rh.of_rt (hH.out.mv hM0.out (fun _ _ => id))
    have d0 := h0.out.c0
    have d1 := h0.out.fr 0
    have hs0 := hM0.out.size
    have HV : Hid ((w0.alloc (.cells #[.int .i64 x] 3)).ownsRow B 3 1 (.slice va n vc) n (ints n V)) := h0.out.vrow.alloc _
    have HN := Lib.hid (World.news_of_block (cs := #[.int .i64 x]) (t := 3) (fr := (0, 0)) (heap_alloc_new w0 (.cells #[.int .i64 x] 3)))
    obtain ⟨ua, uc, rfl, -, -⟩ := form_of h0.out.urow
    clear hw0 c0 c2 T
    go_upto_region 6 with (at_builtin; refine wpList_append_lies _ rfl _ _ 27 rfl B 3 j0 _ 1 8 Tryd.underlying27 hj hy0 hy1 hy2 rfl (by decide) (.slice va n vc) n (ints n V) rfl HV.out ⟨w0.heap.size, 0, none⟩ 1 1 [.int .i64 x] rfl rfl HN.out (by simp [Value.oneCell']) (by decide) (by unfold maxLen; omega) (by omega) (by simp; omega) (w0.heap.size + 1) (by simp) ?_; intro g1 c1 w1 hown hgrow hat hl1; obtain ⟨e0, e1, hA⟩ := h0.out.vstep (.cells #[.int .i64 x] 3) x hown hgrow hat; clear hown hgrow hat hl1)
    obtain ⟨w2, hw2⟩ : ∃ w2, w2 = w1.setCell ⟨mb, 0, none⟩ (.slice (some ⟨g1, 0, none⟩) (n + 1) c1) := ⟨_, rfl⟩
    have hA2 : Aside (Rh w2 B mb most (.slice (some ⟨g1, 0, none⟩) (n + 1) c1) (.slice ua n uc) (n + 1) n (upd V n x) U ∧ Mv (Foot mb (.slice va n vc) (.slice ua n uc)) w0 w2 ∧ ∀ k, Foot mb (.slice (some ⟨g1, 0, none⟩) (n + 1) c1) (.slice ua n uc) k → Foot mb (.slice va n vc) (.slice ua n uc) k ∨ w0.heap.size ≤ k) := by rw [hw2]; exact hA
    rw [← hw2]
    have f0 := hA2.out.1.c0
    have f1 := hA2.out.1.c1
    have f2 := hA2.out.1.fr 1
    have hs2 := hA2.out.2.1.size
    have HU : Hid ((w2.alloc (.cells #[.int .i64 (u : Int)] 3)).ownsRow B 3 1 (.slice ua n uc) n (ints n U)) := hA2.out.1.urow.alloc _
    have HN2 := Lib.hid (World.news_of_block (cs := #[.int .i64 (u : Int)]) (t := 3) (fr := (0, 0)) (heap_alloc_new w2 (.cells #[.int .i64 (u : Int)] 3)))
    clear hw2 hA e0 e1 HV HN d0 d1
    go_wp2_with (at_builtin; refine wpList_append_lies _ rfl _ _ 27 rfl B 3 j0 _ 1 8 Tryd.underlying27 hj hy0 hy1 hy2 rfl (by decide) (.slice ua n uc) n (ints n U) rfl HU.out ⟨w2.heap.size, 0, none⟩ 1 1 [.int .i64 (u : Int)] rfl rfl HN2.out (by simp [Value.oneCell']) (by decide) (by unfold maxLen; omega) (by omega) (by simp; omega) (w2.heap.size + 1) (by simp) ?_; intro g3 c3 w3 hown hgrow hat hl1; obtain ⟨e0, e1, hA3⟩ := hA2.out.1.ustep (.cells #[.int .i64 (u : Int)] 3) (u : Int) hown hgrow hat; have e2 := hA3.out.1.c0; clear hown hgrow hat hl1)
    go_ret2

    exact ⟨rfl, _, _, hA3.out.1.rt, ((hM0.out.mono (fun _ h => h.elim)).trans (hA2.out.2.1.trans hA3.out.2.1 hA2.out.2.2) (fun k hk => .inl hk)), fun k hk => (hA3.out.2.2 k hk).elim (fun h => (hA2.out.2.2 k h).imp id (fun h => Nat.le_trans hs0 h)) (fun h => .inr (by omega))⟩
  · have T := has_no h (-1) (.inl (by omega))
    obtain ⟨va, vc, rfl, -, -⟩ := form_of h.vrow
    have hm2 : 0 < most := by simpa using hm
    clear h
    go_enter Tryd.func11, Tryd.ntmps11
    go_wp2_with fail
    refine T.mono ?_; rintro e w' ⟨rfl, rfl⟩
    go_wp2_with fail
    go_quiet (fail)
    obtain ⟨w0, hw0⟩ : ∃ w0, w0 = w.drewN nq := ⟨_, rfl⟩
    rw [← hw0]
    have hM0 : Aside (Mv (fun _ => False) w w0) := by rw [hw0]; exact (Mv.refl _ w).drewN nq
    have h0 : Aside (Rh w0 B mb most (.slice va 0 vc) uv 0 0 V U) := Rh.of_rt (hH.out.mv hM0.out (fun _ _ => id))
    have d0 := h0.out.c0
    have d1 := h0.out.fr 0
    have hs0 := hM0.out.size
    have HV : Hid ((w0.alloc (.cells #[.int .i64 x] 3)).ownsRow B 3 1 (.slice va 0 vc) 0 (ints 0 V)) := h0.out.vrow.alloc _
    have HN := Lib.hid (World.news_of_block (cs := #[.int .i64 x]) (t := 3) (fr := (0, 0)) (heap_alloc_new w0 (.cells #[.int .i64 x] 3)))
    obtain ⟨ua, uc, rfl, -, -⟩ := form_of h0.out.urow
    clear hw0 c0 c2 T
    go_upto_region 6 with (at_builtin; refine wpList_append_lies _ rfl _ _ 27 rfl B 3 j0 _ 1 8 Tryd.underlying27 hj hy0 hy1 hy2 rfl (by decide) (.slice va 0 vc) 0 (ints 0 V) rfl HV.out ⟨w0.heap.size, 0, none⟩ 1 1 [.int .i64 x] rfl rfl HN.out (by simp [Value.oneCell']) (by decide) (by unfold maxLen; omega) (by omega) (by simp; omega) (w0.heap.size + 1) (by simp) ?_; intro g1 c1 w1 hown hgrow hat hl1; obtain ⟨e0, e1, hA⟩ := h0.out.vstep (.cells #[.int .i64 x] 3) x hown hgrow hat; clear hown hgrow hat hl1)
    obtain ⟨w2, hw2⟩ : ∃ w2, w2 = w1.setCell ⟨mb, 0, none⟩ (.slice (some ⟨g1, 0, none⟩) (0 + 1) c1) := ⟨_, rfl⟩
    have hA2 : Aside (Rh w2 B mb most (.slice (some ⟨g1, 0, none⟩) (0 + 1) c1) (.slice ua 0 uc) (0 + 1) 0 (upd V 0 x) U ∧ Mv (Foot mb (.slice va 0 vc) (.slice ua 0 uc)) w0 w2 ∧ ∀ k, Foot mb (.slice (some ⟨g1, 0, none⟩) (0 + 1) c1) (.slice ua 0 uc) k → Foot mb (.slice va 0 vc) (.slice ua 0 uc) k ∨ w0.heap.size ≤ k) := by rw [hw2]; exact hA
    rw [← hw2]
    have f0 := hA2.out.1.c0
    have f1 := hA2.out.1.c1
    have f2 := hA2.out.1.fr 1
    have hs2 := hA2.out.2.1.size
    have HU : Hid ((w2.alloc (.cells #[.int .i64 (-1)] 3)).ownsRow B 3 1 (.slice ua 0 uc) 0 (ints 0 U)) := hA2.out.1.urow.alloc _
    have HN2 := Lib.hid (World.news_of_block (cs := #[.int .i64 (-1)]) (t := 3) (fr := (0, 0)) (heap_alloc_new w2 (.cells #[.int .i64 (-1)] 3)))
    clear hw2 hA e0 e1 HV HN d0 d1
    go_wp2_with (at_builtin; refine wpList_append_lies _ rfl _ _ 27 rfl B 3 j0 _ 1 8 Tryd.underlying27 hj hy0 hy1 hy2 rfl (by decide) (.slice ua 0 uc) 0 (ints 0 U) rfl HU.out ⟨w2.heap.size, 0, none⟩ 1 1 [.int .i64 (-1)] rfl rfl HN2.out (by simp [Value.oneCell']) (by decide) (by unfold maxLen; omega) (by omega) (by simp; omega) (w2.heap.size + 1) (by simp) ?_; intro g3 c3 w3 hown hgrow hat hl1; obtain ⟨e0, e1, hA3⟩ := hA2.out.1.ustep (.cells #[.int .i64 (-1)] 3) (-1) hown hgrow hat; have e2 := hA3.out.1.c0; clear hown hgrow hat hl1)
    go_ret2

    exact ⟨rfl, _, _, hA3.out.1.rt, ((hM0.out.mono (fun _ h => h.elim)).trans (hA2.out.2.1.trans hA3.out.2.1 hA2.out.2.2) (fun k hk => .inl hk)), fun k hk => (hA3.out.2.2 k hk).elim (fun h => (hA2.out.2.2 k h).imp id (fun h => Nat.le_trans hs0 h)) (fun h => .inr (by omega))⟩
end Go.Proofs.YtegbaocpacbljaaDoor.rf
