/- Value, Kid and Set of a tree; and Add, where it takes no value. -/
import Derived.Test.YtegbaocpacbljaaDoorArMemI
import Derived.Test.YtegbaocpacbljaaDoorArLenI
import Derived.Test.YtegbaocpacbljaaDoorKinds
namespace Go.Proofs.YtegbaocpacbljaaDoor.arenaI
open Go.RowKit Go.Proofs.YtegbaocpacbljaaDoor.arena Go.Proofs.YtegbaocpacbljaaDoor.errs
variable {w : World} {B tb : Nat} {most : Int} {nv : Value} {n : Nat} {V : Nat → Int} {U : Nat → Int} {K : Nat → Value} {C : Nat → List Nat}

theorem value_yes (h : Tr w B tb most nv n V U K C) (i : Nat) (hi : i < n) : Calls Tryd.prog 22 #[.pointer (some ⟨tb, 0, none⟩), .int .i64 (i : Int)] w fun e w' => e = .returned (.tuple #[.int .i64 (V i), .bool true]) ∧ w = w' := by
  have T := there_yes h i hi
  have c1 := h.c1
  obtain ⟨nb, cap, rfl, k1, k2, k3, k4, k5, k6⟩ := h.row hi
  obtain ⟨c2, -, -⟩ := k5 i hi
  have x0 : (0 : Int) ≤ (i : Int) := by omega
  have x1 : (i : Int) < (n : Int) := by omega
  clear h k5 k6
  go_enter Tryd.func22, Tryd.ntmps22
  go_wp2_with fail
  refine T.mono ?_; rintro e w' ⟨rfl, rfl⟩
  go_wp2_with fail
  go_ret2
  exact ⟨rfl, rfl⟩
theorem value_no (h : Tr w B tb most nv n V U K C) (x : Int) (hx : x < 0 ∨ (n : Int) ≤ x) : Calls Tryd.prog 22 #[.pointer (some ⟨tb, 0, none⟩), .int .i64 x] w fun e w' => e = .returned (.tuple #[.int .i64 0, .bool false]) ∧ w = w' := by
  have T := there_no h x hx
  clear h hx
  go_enter Tryd.func22, Tryd.ntmps22
  go_wp2_with fail
  refine T.mono ?_; rintro e w' ⟨rfl, rfl⟩
  go_wp2_with fail
  go_ret2
  exact ⟨rfl, rfl⟩
theorem kid_yes (h : Tr w B tb most nv n V U K C) (i : Nat) (hi : i < n) (j : Nat) (hj : j < (C i).length) (hl : (C i).length ≤ 1000000) : Calls Tryd.prog 29 #[.pointer (some ⟨tb, 0, none⟩), .int .i64 (i : Int), .int .i64 (j : Int)] w fun e w' => e = .returned (.tuple #[.int .i64 (((C i).getD j 0 : Nat) : Int), .bool true]) ∧ w = w' := by
  have T := there_yes h i hi
  have c1 := h.c1
  obtain ⟨nb, cap, rfl, k1, k2, k3, k4, k5, k6⟩ := h.row hi
  obtain ⟨-, -, c2⟩ := k5 i hi
  have x0 : (0 : Int) ≤ (i : Int) := by omega
  have x1 : (i : Int) < (n : Int) := by omega
  have x2 : (0 : Int) ≤ (j : Int) := by omega
  have x3 : (j : Int) < ((C i).length : Int) := by omega
  obtain ⟨kb, kc, hk, c3⟩ : ∃ kb kc, K i = .slice (some ⟨kb, 0, none⟩) (C i).length kc ∧ w.cell? ⟨kb, j, none⟩ = some (.int .i64 (((C i).getD j 0 : Nat) : Int)) := by
    rcases own_form (h.kid i hi) with ⟨-, e, -⟩ | ⟨g, c, e, -, -, -, -, h5, -⟩
    · omega
    · exact ⟨g, c, e, by rw [h5 j (by omega), nums_at _ _ hj]⟩
  rw [hk] at c2
  clear h k5 k6 hk
  generalize (C i).getD j 0 = z at *
  go_enter Tryd.func29, Tryd.ntmps29
  go_wp2_with fail
  refine T.mono ?_; rintro e w' ⟨rfl, rfl⟩
  go_wp2_with fail
  go_ret2
  exact ⟨rfl, rfl⟩
theorem kid_off (h : Tr w B tb most nv n V U K C) (i : Nat) (hi : i < n) (j : Int) (hj : j < 0 ∨ ((C i).length : Int) ≤ j) : Calls Tryd.prog 29 #[.pointer (some ⟨tb, 0, none⟩), .int .i64 (i : Int), .int .i64 j] w fun e w' => e = .returned (.tuple #[.int .i64 0, .bool false]) ∧ w = w' := by
  have T := there_yes h i hi
  have c1 := h.c1
  obtain ⟨nb, cap, rfl, k1, k2, k3, k4, k5, k6⟩ := h.row hi
  obtain ⟨-, -, c2⟩ := k5 i hi
  have x0 : (0 : Int) ≤ (i : Int) := by omega
  have x1 : (i : Int) < (n : Int) := by omega
  obtain ⟨ka, kc, hk⟩ := h.kform hi
  rw [hk] at c2
  clear h k5 k6 hk
  by_cases h0 : j < 0
  · clear hj
    go_enter Tryd.func29, Tryd.ntmps29
    go_wp2_with fail
    refine T.mono ?_; rintro e w' ⟨rfl, rfl⟩
    go_wp2_with fail
    go_ret2
    exact ⟨rfl, rfl⟩
  · have h1 : ((C i).length : Int) ≤ j := by omega
    have h2 : 0 ≤ j := by omega
    clear hj h0
    go_enter Tryd.func29, Tryd.ntmps29
    go_wp2_with fail
    refine T.mono ?_; rintro e w' ⟨rfl, rfl⟩
    go_wp2_with fail
    go_ret2
    exact ⟨rfl, rfl⟩
theorem kid_no (h : Tr w B tb most nv n V U K C) (x j : Int) (hx : x < 0 ∨ (n : Int) ≤ x) : Calls Tryd.prog 29 #[.pointer (some ⟨tb, 0, none⟩), .int .i64 x, .int .i64 j] w fun e w' => e = .returned (.tuple #[.int .i64 0, .bool false]) ∧ w = w' := by
  have T := there_no h x hx
  clear h hx
  go_enter Tryd.func29, Tryd.ntmps29
  go_wp2_with fail
  refine T.mono ?_; rintro e w' ⟨rfl, rfl⟩
  go_wp2_with fail
  go_ret2
  exact ⟨rfl, rfl⟩

theorem flat_setV {n u : Nat} (V : Nat → Int) (U : Nat → Int) (K : Nat → Value) (x : Int) (hu : u < n) : (flat n V U K).set (u * 3) (.int .i64 x) = flat n (upd V u x) U K := by
  apply List.ext_getElem?
  intro k
  by_cases hk : k < n * 3
  · obtain ⟨i, j, hi, hj, rfl⟩ : ∃ i j, i < n ∧ j < 3 ∧ k = i * 3 + j := ⟨k / 3, k % 3, by omega, by omega, by omega⟩
    rw [List.getElem?_set, flat_at _ _ _ hi hj, flat_at _ _ _ hi hj]
    by_cases e : u * 3 = i * 3 + j
    · obtain ⟨rfl, rfl⟩ : u = i ∧ j = 0 := by omega
      rw [if_pos e, if_pos (by rw [flat_length]; omega)]
      simp [upd]
    · rw [if_neg e]
      by_cases e2 : i = u
      · subst e2
        obtain rfl | rfl : j = 1 ∨ j = 2 := by omega
        · rfl
        · rfl
      · rw [upd_other V x e2]
  · rw [List.getElem?_eq_none (by rw [List.length_set, flat_length]; omega), List.getElem?_eq_none (by rw [flat_length]; omega)]
theorem set_yes (h : Tr w B tb most nv n V U K C) (i : Nat) (hi : i < n) (x : Int) : Calls Tryd.prog 6 #[.pointer (some ⟨tb, 0, none⟩), .int .i64 (i : Int), .int .i64 x] w fun e w' => e = .returned .nilIface ∧ Aside (Tr w' B tb most nv n (upd V i x) U K C ∧ Mv (Foot tb nv n K) w w') := by
  have T := there_yes h i hi
  have c1 := h.c1
  obtain ⟨nb, cap, rfl, k1, k2, k3, k4, k5, k6⟩ := h.row hi
  obtain ⟨c2, -, -⟩ := k5 i hi
  have f2 := k6 (i * 3)
  have x0 : (0 : Int) ≤ (i : Int) := by omega
  have x1 : (i : Int) < (n : Int) := by omega
  have n1 : nb ≠ tb := fun e => h.a1 (by rw [e]; rfl)
  have R : Aside (Tr (w.setCell ⟨nb, i * 3, none⟩ (.int .i64 x)) B tb most (.slice (some ⟨nb, 0, none⟩) n cap) n (upd V i x) U K C ∧ Mv (Foot tb (.slice (some ⟨nb, 0, none⟩) n cap) n K) w (w.setCell ⟨nb, i * 3, none⟩ (.int .i64 x))) := by
    have blk : ∀ k, k ≠ nb → (w.setCell ⟨nb, i * 3, none⟩ (.int .i64 x)).heap[k]? = w.heap[k]? := fun k hk => Below.heap_setCell w _ _ k (by simpa using hk)
    refine ⟨⟨h.base, (blk tb (Ne.symm n1)).trans h.head, ?_, fun j hj => own_of_block (h.kid j hj) fun g hg => blk g (fun e => h.a3 j g hj hg (by rw [e]; rfl)), h.a1, h.a2, h.a3, h.a4⟩, Mv.of_set w _ _ (.inl (show Foot tb (.slice (some ⟨nb, 0, none⟩) n cap) n K nb from .inr (.inl rfl)))⟩
    have := (h.own.stored (i * 3) (.int .i64 x)).1
    rwa [flat_setV V U K x hi] at this
  clear h k5 k6
  go_enter Tryd.func6, Tryd.ntmps6
  go_wp2_with fail
  refine T.mono ?_; rintro e w' ⟨rfl, rfl⟩
  go_wp2_with fail
  go_ret
  exact ⟨rfl, R.out⟩
theorem set_no (h : Tr w B tb most nv n V U K C) (i : Int) (hx : i < 0 ∨ (n : Int) ≤ i) (x : Int) : Calls Tryd.prog 6 #[.pointer (some ⟨tb, 0, none⟩), .int .i64 i, .int .i64 x] w fun e w' => ∃ b, e = .returned (.iface 56 (.pointer (some ⟨b, 0, none⟩))) ∧ Aside (FaultAt w' (.iface 56 (.pointer (some ⟨b, 0, none⟩))) 30 i .nilIface ∧ Below w.heap.size w w') := by
  have T := there_no h i hx
  clear h hx
  go_enter Tryd.func6, Tryd.ntmps6
  go_wp2_with fail
  refine T.mono ?_; rintro e w' ⟨rfl, rfl⟩
  go_wp2_with fail
  refine (fail_any 30 i w).mono ?_; rintro e w' ⟨rfl, rfl⟩
  go_wp2_with fail
  go_ret
  exact ⟨_, rfl, fault_new w 30 i .nilIface, (Below.refl _ w).alloc (Nat.le_refl _) _⟩
set_option maxRecDepth 100000 in
theorem add_name (h : Tr w B tb most nv n V U K C) (up : Int) (x : Int) (hx : up < 0 ∨ (n : Int) ≤ up) (hr : 0 < n ∨ up ≠ -1) : Calls Tryd.prog 10 #[.pointer (some ⟨tb, 0, none⟩), .int .i64 up, .int .i64 x] w fun e w' => ∃ b, e = .returned (.tuple #[.int .i64 0, .iface 56 (.pointer (some ⟨b, 0, none⟩))]) ∧ Aside (FaultAt w' (.iface 56 (.pointer (some ⟨b, 0, none⟩))) 30 up .nilIface ∧ Below w.heap.size w w') := by
  have T := there_no h up hx
  have L := len_any h
  have R : Aside (FaultAt (w.alloc (.cells #[.int .i64 30, .int .i64 up, .nilIface] 60)) (.iface 56 (.pointer (some ⟨w.heap.size, 0, none⟩))) 30 up .nilIface ∧ Below w.heap.size w (w.alloc (.cells #[.int .i64 30, .int .i64 up, .nilIface] 60))) := ⟨fault_new w 30 up .nilIface, (Below.refl _ w).alloc (Nat.le_refl _) _⟩
  clear h hx
  by_cases hn : 0 < n
  · have y0 : (0 : Int) < (n : Int) := by omega
    clear hr
    go_enter Tryd.func10, Tryd.ntmps10
    go_wp2_with fail
    refine L.mono ?_; rintro e w' ⟨rfl, rfl⟩
    go_wp2_with fail
    refine T.mono ?_; rintro e w' ⟨rfl, rfl⟩
    go_wp2_with fail
    refine (fail_any 30 up w).mono ?_; rintro e w' ⟨rfl, rfl⟩
    go_wp2_with fail
    go_ret2
    exact ⟨_, rfl, R.out⟩
  · obtain rfl : n = 0 := by omega
    have y0 : up ≠ -1 := by omega
    have y1 : (up == -1) = false := by simpa using y0
    clear hr hn
    go_enter Tryd.func10, Tryd.ntmps10
    go_wp2_with fail
    refine L.mono ?_; rintro e w' ⟨rfl, rfl⟩
    go_wp2_with fail
    refine T.mono ?_; rintro e w' ⟨rfl, rfl⟩
    go_wp2_with fail
    refine (fail_any 30 up w).mono ?_; rintro e w' ⟨rfl, rfl⟩
    go_wp2_with fail
    go_ret2
    exact ⟨_, rfl, R.out⟩
set_option maxRecDepth 100000 in
theorem add_many (h : Tr w B tb most nv n V U K C) (up : Int) (x : Int) (hr : (∃ u : Nat, up = (u : Int) ∧ u < n) ∨ n = 0 ∧ up = -1) (hm : most ≤ (n : Int)) : Calls Tryd.prog 10 #[.pointer (some ⟨tb, 0, none⟩), .int .i64 up, .int .i64 x] w fun e w' => ∃ b, e = .returned (.tuple #[.int .i64 0, .iface 56 (.pointer (some ⟨b, 0, none⟩))]) ∧ Aside (FaultAt w' (.iface 56 (.pointer (some ⟨b, 0, none⟩))) 15 up .nilIface ∧ Below w.heap.size w w') := by
  have L := len_any h
  have c0 := h.c0
  have R : Aside (FaultAt (w.alloc (.cells #[.int .i64 15, .int .i64 up, .nilIface] 60)) (.iface 56 (.pointer (some ⟨w.heap.size, 0, none⟩))) 15 up .nilIface ∧ Below w.heap.size w (w.alloc (.cells #[.int .i64 15, .int .i64 up, .nilIface] 60))) := ⟨fault_new w 15 up .nilIface, (Below.refl _ w).alloc (Nat.le_refl _) _⟩
  rcases hr with ⟨u, rfl, hu⟩ | ⟨rfl, rfl⟩
  · have T := there_yes h u hu
    have y0 : (0 : Int) < (n : Int) := by omega
    have y1 : ¬ (n : Int) = 0 := by omega
    clear h
    go_enter Tryd.func10, Tryd.ntmps10
    go_wp2_with fail
    refine L.mono ?_; rintro e w' ⟨rfl, rfl⟩
    go_wp2_with fail
    refine T.mono ?_; rintro e w' ⟨rfl, rfl⟩
    go_wp2_with fail
    refine (fail_any 15 (u : Int) w).mono ?_; rintro e w' ⟨rfl, rfl⟩
    go_wp2_with fail
    go_ret2
    exact ⟨_, rfl, R.out⟩
  · have hm2 : most ≤ 0 := by simpa using hm
    clear h
    go_enter Tryd.func10, Tryd.ntmps10
    go_wp2_with fail
    refine L.mono ?_; rintro e w' ⟨rfl, rfl⟩
    go_wp2_with fail
    refine (fail_any 15 (-1) w).mono ?_; rintro e w' ⟨rfl, rfl⟩
    go_wp2_with fail
    go_ret2
    exact ⟨_, rfl, R.out⟩
end Go.Proofs.YtegbaocpacbljaaDoor.arenaI
