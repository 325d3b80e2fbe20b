/- The walk of the law on Put: for any number and any bytes behind it it returns true, and what was there stays. -/
import Derived.Test.YtgoicbgoelaomaaDoorSpeaks
import Derived.Test.YtgoicbgoelaomaaDoorCalm
import Derived.Test.YtgoicbgoelaomaaDoorPut
import Derived.Test.YtgoicbgoelaomaaDoorRefText
import Derived.Laws.AppendOwnNone
import Derived.Deep.RegionHeld3
import Derived.Deep.DrawnRows
import Derived.Deep.QuietTactic
import Derived.BigQuiet
set_option linter.unusedSimpArgs false
set_option linter.unusedVariables false
namespace Go.Proofs.YtgoicbgoelaomaaDoor.utfPuts
open Go.RowKit Go.Proofs.YtgoicbgoelaomaaDoor.errs Go.Proofs.YtgoicbgoelaomaaDoor.utf Go.Proofs.YtgoicbgoelaomaaDoor.umath Go.Proofs.YtgoicbgoelaomaaDoor.text Go.Proofs.YtgoicbgoelaomaaDoor.ref Go.Proofs.YtgoicbgoelaomaaDoor.chars Go.Proofs.YtgoicbgoelaomaaDoor.put

theorem opened {W w : World} {k a : Int} {rest : Value → Value} (hb : Keeps W w) (e : Ending) (w' : World) (h : Failed w e w' k a rest) :
    ∃ bb, e = .returned (rest (.iface 59 (.pointer (some ⟨bb, 0, none⟩)))) ∧ Aside (FaultAt w' (.iface 59 (.pointer (some ⟨bb, 0, none⟩))) k a .nilIface ∧ Keeps W w') := by
  obtain ⟨v, rfl, ⟨bb, rfl, q⟩, hb'⟩ := h
  exact ⟨bb, rfl, ⟨bb, rfl, q⟩, hb.step hb'⟩

/-- The bytes of a slice that came in, as a source of append. -/
theorem source_of_row {w : World} {a : Option Addr} {len cap : Nat} {zs : List Int} (h : frame.IsRow .u8 w a len cap zs) :
    ∃ ms : List Int, ms.length = len ∧ (∀ y ∈ ms, 0 ≤ y ∧ y ≤ 255) ∧ ((a = none ∧ len = 0 ∧ cap = 0) ∨ ∃ ad, a = some ad ∧ ∀ (j : Nat) u, (cellsOf ms)[j]? = some u → w.cell? (ad.add j) = some u) := by
  rcases h with ⟨rfl, rfl, rfl, rfl⟩ | ⟨x, rfl, hl, hm, hz, hc, hw⟩
  · exact ⟨[], rfl, by simp, .inl ⟨rfl, rfl, rfl⟩⟩
  · refine ⟨zs.take len, by rw [List.length_take]; omega, fun y hy => frame.wf_u8 (hw y (List.mem_of_mem_take hy)), .inr ⟨x, rfl, fun j u hu => ?_⟩⟩
    unfold cellsOf at hu
    rw [List.getElem?_map, List.getElem?_take] at hu
    split at hu
    · rename_i hj
      rw [hc j (by omega)]
      rw [List.getElem?_eq_getElem (by omega)] at hu
      simp only [Option.map_some, Option.some.injEq] at hu
      rw [← hu, List.getD_eq_getElem?_getD, List.getElem?_eq_getElem (by omega)]
      simp
    · simp at hu

theorem next_of_sl (s : ByteArray) (v : Value) (w : World) (hT : Tabs w) (hv : Sl w v s) (h0 : 0 < s.size) (hc : charAt s 0 = true) :
    Calls Tryd.prog 16 #[v, .int .i64 0] w fun e w' => e = .returned (.tuple #[.int .i64 (Utf8.decode s 0).1, .int .i64 (Utf8.decode s 0).2, .nilIface]) ∧ Below w.heap.size w w' := by
  obtain ⟨a, cap, rfl, h1, h2, h3⟩ := hv
  obtain ⟨b, off, rfl, hB⟩ := h3 h0
  exact next_char s b off cap 0 w hT hB h0 h1 h2 hc

/-- What was put, with bytes behind it, is read as it was. -/
theorem next_put (x : Int) (l ms : List Int) (v : Value) (B : Nat) (w : World) (hT : Tabs w) (hr : right x = true) (hl : put x = l) (hm : ∀ y ∈ ms, 0 ≤ y ∧ y ≤ 255)
    (h : w.ownsRow B 5 1 v (l ++ ms).length (cellsOf (l ++ ms))) :
    Calls Tryd.prog 16 #[v, .int .i64 0] w fun e w' => e = .returned (.tuple #[.int .i64 x, .int .i64 l.length, .nilIface]) ∧ Below w.heap.size w w' := by
  have hall : ∀ y ∈ l ++ ms, 0 ≤ y ∧ y ≤ 255 := fun y hy => by
    rcases List.mem_append.1 hy with hy | hy
    · exact put_range x hr y (by rw [hl]; exact hy)
    · exact hm y hy
  have hh := (holds_bytesOf (l ++ ms) hall).left
  rw [← hl] at hh
  obtain ⟨d1, d2, d3⟩ := decode_put _ 0 x hr hh
  obtain ⟨l1, l2⟩ := put_length x
  rw [hl] at d1 d2 d3 l1
  have := next_of_sl (frame.bytesOf (l ++ ms)) v w hT (sl_of_own h hall) (by rw [frame.bytesOf_size, List.length_append]; omega) d1
  rwa [d2, d3] at this

set_option maxRecDepth 100000 in
set_option maxHeartbeats 4000000 in
theorem law (x : Int) (a : Option Addr) (len cap : Nat) (zs : List Int) (w : World) (_w0 : (Lit.int .i64 x).wf = true) (w1 : frame.IsRow .u8 w a len cap zs) (hH : Tabs w ∧ Laid w) :
    Calls Tryd.prog 8 #[.int .i64 x, .slice a len cap] w fun e w' => e = .returned (.bool true) ∧ Below w.heap.size w w' := by
  have S := speaks_any w hH.1 hH.2
  obtain ⟨ms, hms, hmr, hsrc⟩ := source_of_row w1
  have H : Aside (Tabs w ∧ Laid w) := hH
  have HM : Aside (ms.length = len ∧ ∀ y ∈ ms, 0 ≤ y ∧ y ≤ 255) := ⟨hms, hmr⟩
  clear hH w1 _w0 hms hmr zs
  by_cases hbig : 1000 < len
  · have x1 : (1000 : Int) < (len : Int) := by omega
    clear hsrc
    go_enter Tryd.func8, Tryd.ntmps8
    go_wp2_with fail
    refine S.mono ?_; rintro e w1 ⟨rfl, hb1⟩
    go_wp2_with fail
    go_ret
    exact ⟨rfl, hb1⟩
  have x1 : (len : Int) ≤ 1000 := by omega
  cases hr : right x with
  | false =>
    have P : ∀ w', Keeps w w' → Calls Tryd.prog 28 #[.int .i64 x] w' fun e w'' => ∃ bb, e = .returned (.tuple #[.slice none 0 0, .iface 59 (.pointer (some ⟨bb, 0, none⟩))]) ∧ Aside (FaultAt w'' (.iface 59 (.pointer (some ⟨bb, 0, none⟩))) 16 0 .nilIface ∧ Keeps w w'') :=
      fun w' hk => (put_none x w' hr).mono (opened hk)
    have R : ∀ w, Calls Tryd.prog 29 #[.int .i64 x] w fun e w' => e = .returned (.bool false) ∧ w = w' := fun w => right_no x w hr
    clear hsrc hbig hr
    go_enter Tryd.func8, Tryd.ntmps8
    go_wp2_with fail
    refine S.mono ?_; rintro e w1 ⟨rfl, hb1⟩
    go_wp2_with fail
    refine (P w1 hb1).mono ?_; rintro e w2 ⟨bb, rfl, hF⟩
    have L2 : Aside (Laid w2) := H.out.2.below hF.out.2 (Nat.le_refl _)
    have A1 : ∀ w', Keeps w2 w' → Calls Tryd.prog 13 #[.iface 59 (.pointer (some ⟨bb, 0, none⟩))] w' fun e w' => e = .returned (.int .i64 16) ∧ Keeps w2 w' := fun w' h => kind_keeps L2.out hF.out.1 h
    have A2 : ∀ w', Keeps w2 w' → Calls Tryd.prog 14 #[.iface 59 (.pointer (some ⟨bb, 0, none⟩))] w' fun e w' => e = .returned (.int .i64 0) ∧ Keeps w2 w' := fun w' h => at_keeps L2.out hF.out.1 h
    go_wp2_with fail
    refine (R _).mono ?_; rintro e w3 ⟨rfl, rfl⟩
    go_wp2_with fail
    refine (A1 _ (Keeps.refl _)).mono ?_; rintro e w4 ⟨rfl, k4⟩
    go_wp2_with fail
    refine (A2 _ k4).mono ?_; rintro e w5 ⟨rfl, k5⟩
    go_wp2_with fail
    go_ret
    exact ⟨rfl, hF.out.2.step k5⟩
  | true =>
    have P : ∀ w', Calls Tryd.prog 28 #[.int .i64 x] w' fun e w'' => ∃ g c, e = .returned (.tuple #[.slice (some ⟨g, 0, none⟩) (put x).length c, .nilIface]) ∧ Aside (w''.ownsRow w'.heap.size 5 1 (.slice (some ⟨g, 0, none⟩) (put x).length c) (put x).length (cellsOf (put x)) ∧ Keeps w' w'') :=
      fun w' => put_good x w' hr
    have R : ∀ w, Calls Tryd.prog 29 #[.int .i64 x] w fun e w' => e = .returned (.bool true) ∧ w = w' := fun w => right_yes x w hr
    have Q : Aside (right x = true) := hr
    obtain ⟨l1, l2⟩ := put_length x
    obtain ⟨i0, hi, hz0, hz1, hz2⟩ := info_parts infoByte
    obtain ⟨l, hl⟩ : ∃ l, Hid (put x = l) := ⟨_, rfl⟩
    rw [hl.out] at P l1 l2
    obtain ⟨L, hL⟩ : ∃ L, Hid (l.length = L) := ⟨_, rfl⟩
    rw [hL.out] at P l1 l2
    clear hbig hr
    rcases hsrc with ⟨rfl, rfl, rfl⟩ | ⟨ad, rfl, hsrc⟩
    case inl =>
      go_enter Tryd.func8, Tryd.ntmps8
      go_wp2_with fail
      refine S.mono ?_; rintro e w1 ⟨rfl, hb1⟩
      go_wp2_with fail
      refine (P w1).mono ?_; rintro e w2 ⟨g, c, rfl, hP⟩
      have K2 : Aside (Keeps w w2) := (show Keeps w w1 from hb1).step hP.out.2
      have HC : Aside (∀ (j : Nat) u, (cellsOf l)[j]? = some u → w2.cell? ((⟨g, 0, none⟩ : Addr).add j) = some u) := hP.out.1.cells rfl
      clear hb1
      go_wp2_with fail
      refine (R _).mono ?_; rintro e w3 ⟨rfl, rfl⟩
      go_wp2_with (at_builtin; refine wpList_append_own _ rfl _ _ 31 rfl w2.heap.size 5 i0 (.int .u8 0) 1 1 Tryd.underlying31 hi hz0 hz1 hz2 rfl (by decide) (.slice (some ⟨w2.heap.size, 0, none⟩) 0 0) 0 [] rfl (World.ownsRow_lit w2 #[] 0 (Nat.le_refl _) (by unfold maxLen; omega) rfl) ⟨g, 0, none⟩ L c (cellsOf l) rfl ?c1 ?c2 ?c3 ?c4 ?c5 ?c6 ?_)
      case c1 => rw [cellsOf_length, hL.out, Nat.mul_one]
      case c2 =>
        intro j u hu
        have h2 := HC.out j u hu
        rw [World.cell?_alloc_lt _ _ _ (lt_of_cell h2)]
        exact h2
      case c3 => intro u hu; obtain ⟨y, -, rfl⟩ := List.mem_map.1 hu; rfl
      case c4 => unfold maxLen; omega
      case c5 => omega
      case c6 => simp
      intro v3 w3 hown3 hgrow3 _
      have N3 : Aside (w3.ownsRow w2.heap.size 5 1 v3 L (cellsOf l) ∧ Keeps w2 w3) :=
        ⟨owns_cast hown3 (by omega) (by simp), ((Below.refl w2.heap.size w2).alloc (Nat.le_refl _) _).grown hgrow3 (by simp) (fun q hq => by simp [Value.ownBlock] at hq; omega)⟩
      clear hown3 hgrow3
      go_wp2_with (at_builtin; refine wpList_append_own_none rfl _ _ 31 rfl w2.heap.size 5 i0 1 Tryd.underlying31 hi v3 L (cellsOf l) rfl N3.out.1 rfl ?_)
      obtain rfl : ms = [] := List.length_eq_zero_iff.1 HM.out.1
      have N4 : Aside (w3.ownsRow w2.heap.size 5 1 v3 (l ++ []).length (cellsOf (l ++ [])) ∧ Keeps w2 w3) := ⟨owns_cast N3.out.1 (by rw [List.append_nil, hL.out]) (by rw [List.append_nil]), N3.out.2⟩
      have NX := next_put x l [] v3 w2.heap.size w3 (H.out.1.below (K2.out.step N4.out.2) (Nat.le_refl _)) Q.out hl.out HM.out.2 N4.out.1
      clear N3
      rw [hL.out] at NX
      go_wp2_with fail
      refine NX.mono ?_; rintro e w5 ⟨rfl, k5⟩
      have K5 : Aside (Keeps w2 w5) := N4.out.2.step k5
      clear k5 NX
      go_wp2_with fail
      obtain ⟨Row, hRow⟩ : ∃ Row : World → Prop, Hid (Row = fun W => ∀ j, j < l.length → W.cell? ⟨g, 0 + j, none⟩ = some (.int .u8 (l.getD j 0))) := ⟨_, rfl⟩
      have hR0 : Row w5 := by
        rw [hRow.out]; intro j hj
        have h2 := HC.out j (.int .u8 (l.getD j 0)) (by simp [cellsOf, List.getD_eq_getElem?_getD, hj])
        rw [show (Addr.add ⟨g, 0, none⟩ j : Addr) = ⟨g, 0 + j, none⟩ by simp [Addr.add]; exact fun h => h.symm] at h2
        rw [K5.out.cell (lt_of_cell h2)]; exact h2
      have hR1 : ∀ W, Row W → Row W.drew := by rw [hRow.out]; exact fun W h => h
      have hR2 : ∀ W o, Row W → Row (W.alloc o) := by
        rw [hRow.out]; intro W o h j hj
        rw [World.cell?_alloc_lt _ _ _ (lt_of_cell (h j hj))]; exact h j hj
      have hY : ∀ W, Row W → (convert 31 9 (.slice (some ⟨g, 0, none⟩) L c)).run Tryd.prog W = .ok (.string (strOfNums l)) W := by
        intro W h
        rw [hRow.out] at h
        have := conv_row W g 0 c l h
        rwa [hL.out] at this
      obtain ⟨C, hC⟩ : ∃ C, Hid (cells (put x) = C) := ⟨_, rfl⟩
      have PR : ∀ w : World, Calls Tryd.prog 30 #[.int .i64 x] w fun e w' => e = .returned (.slice (some ⟨w.heap.size, 0, none⟩) L L) ∧ w.alloc (.cells C 5) = w' := fun w => by
        have := put_any x w Q.out
        rw [hC.out, hl.out, hL.out] at this
        exact this
      have hX : ∀ W : World, (convert 31 9 (.slice (some ⟨W.heap.size, 0, none⟩) L L)).run Tryd.prog (W.alloc (.cells C 5)) = .ok (.string (strOfNums l)) (W.alloc (.cells C 5)) := fun W => by
        have := conv_row (W.alloc (.cells C 5)) W.heap.size 0 L l (fun j hj => by
          rw [World.cell?_alloc_at _ _ _ _ rfl, ← hC.out, hl.out]
          simp [cells, List.getD_eq_getElem?_getD, List.getElem?_eq_getElem hj])
        rw [hL.out] at this
        exact this
      generalize strOfNums l = X at hY hX
      refine wp_region_noPanic ?_
      refine wp_region_held_drew (S := Row) (by kernel_rfl) (hR1 _ hR0) (fun hHeld => ?_)
      refine wpAnyH_take (i := 0) (oi := _) (v := ?_) rfl (by kernel_rfl) (by kernel_rfl) (by kernel_rfl) (fun _ _ _ h => h) (Or.inl ⟨by rfl, ?_⟩) (by assumption) ?_
      rotate_left 1
      · intro w hSw
        go_simp
        all_goals with_reducible rfl
      try simp only [List.getElem_toArray, List.getElem_cons_succ, List.getElem_cons_zero, Act.put, List.setIfInBounds_toArray, List.set_cons_zero, List.set_cons_succ]
      refine wpAnyH_take (i := 1) (oi := _) (v := ?_) rfl (by kernel_rfl) (by kernel_rfl) (by kernel_rfl) (fun _ _ _ h => h) (Or.inl ⟨by rfl, ?_⟩) (by assumption) ?_
      rotate_left 1
      · intro w hSw
        go_simp
        all_goals with_reducible rfl
      try simp only [List.getElem_toArray, List.getElem_cons_succ, List.getElem_cons_zero, Act.put, List.setIfInBounds_toArray, List.set_cons_zero, List.set_cons_succ]
      refine wpAnyH_take (i := 2) (oi := _) (v := ?_) rfl (by kernel_rfl) (by kernel_rfl) (by kernel_rfl) (fun _ _ _ h => h) (Or.inl ⟨by rfl, ?_⟩) (by assumption) ?_
      rotate_left 1
      · intro w hSw
        go_simp
        all_goals with_reducible rfl
      try simp only [List.getElem_toArray, List.getElem_cons_succ, List.getElem_cons_zero, Act.put, List.setIfInBounds_toArray, List.set_cons_zero, List.set_cons_succ]
      refine wpAnyH_take (i := 3) (oi := _) (v := ?_) rfl (by kernel_rfl) (by kernel_rfl) (by kernel_rfl) (fun _ _ _ h => h) (Or.inl ⟨by rfl, ?_⟩) (by assumption) ?_
      rotate_left 1
      · intro w hSw
        go_simp
        all_goals with_reducible rfl
      try simp only [List.getElem_toArray, List.getElem_cons_succ, List.getElem_cons_zero, Act.put, List.setIfInBounds_toArray, List.set_cons_zero, List.set_cons_succ]
      refine wpAnyH_take (i := 4) (oi := _) (v := ?_) rfl (by kernel_rfl) (by kernel_rfl) (by kernel_rfl) (fun _ _ _ h => h) (Or.inl ⟨by rfl, ?_⟩) (by assumption) ?_
      rotate_left 1
      · intro w hSw
        have hy := hY w hSw
        go_simp
        all_goals with_reducible rfl
      try simp only [List.getElem_toArray, List.getElem_cons_succ, List.getElem_cons_zero, Act.put, List.setIfInBounds_toArray, List.set_cons_zero, List.set_cons_succ]
      refine wpAnyH_take (i := 5) (oi := _) (v := ?_) rfl (by kernel_rfl) (by kernel_rfl) (by kernel_rfl) (fun _ _ _ h => h) (Or.inl ⟨by rfl, ?_⟩) (by assumption) ?_
      rotate_left 1
      · intro w hSw
        go_simp
        all_goals with_reducible rfl
      try simp only [List.getElem_toArray, List.getElem_cons_succ, List.getElem_cons_zero, Act.put, List.setIfInBounds_toArray, List.set_cons_zero, List.set_cons_succ]
      refine wpAnyH_ready (rs := [6]) (by kernel_rfl) (by simp) ?_
      refine AllReadyH.cons (o := _) rfl (fun K hK => ?_) AllReadyH.nil
      go_simp
      refine (PR _).mono ?_; rintro e w' ⟨rfl, rfl⟩
      refine hK.out _ _ ?_ (fun hHeld => ?_)
      · exact hR2 _ _ hHeld
      clear hK K
      try simp only [List.getElem_toArray, List.getElem_cons_succ, List.getElem_cons_zero, Act.put, List.setIfInBounds_toArray, List.set_cons_zero, List.set_cons_succ]
      have hx : (convert 31 9 (.slice (some ⟨w5.heap.size, 0, none⟩) L L)).run Tryd.prog (w5.alloc (.cells C 5)).drew = .ok (.string X) (w5.alloc (.cells C 5)).drew := hX w5.drew
      refine wpAnyH_ready (rs := [7]) (by kernel_rfl) (by simp) ?_
      refine AllReadyH.cons (o := _) rfl (fun K hK => ?_) AllReadyH.nil
      go_simp
      refine hK.out _ _ ?_ (fun hHeld => ?_)
      · assumption
      clear hK K
      try simp only [List.getElem_toArray, List.getElem_cons_succ, List.getElem_cons_zero, Act.put, List.setIfInBounds_toArray, List.set_cons_zero, List.set_cons_succ]
      refine wpAnyH_take (i := 8) (oi := _) (v := ?_) rfl (by kernel_rfl) (by kernel_rfl) (by kernel_rfl) (fun _ _ _ h => h) (Or.inl ⟨by rfl, ?_⟩) (by assumption) ?_
      rotate_left 1
      · intro w hSw
        go_simp
        all_goals with_reducible rfl
      try simp only [List.getElem_toArray, List.getElem_cons_succ, List.getElem_cons_zero, Act.put, List.setIfInBounds_toArray, List.set_cons_zero, List.set_cons_succ]
      refine wpAnyH_take (i := 9) (oi := _) (v := ?_) rfl (by kernel_rfl) (by kernel_rfl) (by kernel_rfl) (fun _ _ _ h => h) (Or.inl ⟨by rfl, ?_⟩) (by assumption) ?_
      rotate_left 1
      · intro w hSw
        go_simp
        all_goals with_reducible rfl
      try simp only [List.getElem_toArray, List.getElem_cons_succ, List.getElem_cons_zero, Act.put, List.setIfInBounds_toArray, List.set_cons_zero, List.set_cons_succ]
      refine wpAnyH_take (i := 10) (oi := _) (v := ?_) rfl (by kernel_rfl) (by kernel_rfl) (by kernel_rfl) (fun _ _ _ h => h) (Or.inl ⟨by rfl, ?_⟩) (by assumption) ?_
      rotate_left 1
      · intro w hSw
        go_simp
        all_goals with_reducible rfl
      try simp only [List.getElem_toArray, List.getElem_cons_succ, List.getElem_cons_zero, Act.put, List.setIfInBounds_toArray, List.set_cons_zero, List.set_cons_succ]
      refine wpAnyH_take (i := 11) (oi := _) (v := ?_) rfl (by kernel_rfl) (by kernel_rfl) (by kernel_rfl) (fun _ _ _ h => h) (Or.inl ⟨by rfl, ?_⟩) (by assumption) ?_
      rotate_left 1
      · intro w hSw
        go_simp
        all_goals with_reducible rfl
      try simp only [List.getElem_toArray, List.getElem_cons_succ, List.getElem_cons_zero, Act.put, List.setIfInBounds_toArray, List.set_cons_zero, List.set_cons_succ]
      refine wpAnyH_take (i := 12) (oi := _) (v := ?_) rfl (by kernel_rfl) (by kernel_rfl) (by kernel_rfl) (fun _ _ _ h => h) (Or.inl ⟨by rfl, ?_⟩) (by assumption) ?_
      rotate_left 1
      · intro w hSw
        go_simp
        all_goals with_reducible rfl
      try simp only [List.getElem_toArray, List.getElem_cons_succ, List.getElem_cons_zero, Act.put, List.setIfInBounds_toArray, List.set_cons_zero, List.set_cons_succ]
      refine wpAnyH_take (i := 13) (oi := _) (v := ?_) rfl (by kernel_rfl) (by kernel_rfl) (by kernel_rfl) (fun _ _ _ h => h) (Or.inl ⟨by rfl, ?_⟩) (by assumption) ?_
      rotate_left 1
      · intro w hSw
        go_simp
        all_goals with_reducible rfl
      try simp only [List.getElem_toArray, List.getElem_cons_succ, List.getElem_cons_zero, Act.put, List.setIfInBounds_toArray, List.set_cons_zero, List.set_cons_succ]
      refine wpAnyH_take (i := 14) (oi := _) (v := ?_) rfl (by kernel_rfl) (by kernel_rfl) (by kernel_rfl) (fun _ _ _ h => h) (Or.inl ⟨by rfl, ?_⟩) (by assumption) ?_
      rotate_left 1
      · intro w hSw
        go_simp
        all_goals with_reducible rfl
      try simp only [List.getElem_toArray, List.getElem_cons_succ, List.getElem_cons_zero, Act.put, List.setIfInBounds_toArray, List.set_cons_zero, List.set_cons_succ]
      refine wpAnyH_take (i := 15) (oi := _) (v := ?_) rfl (by kernel_rfl) (by kernel_rfl) (by kernel_rfl) (fun _ _ _ h => h) (Or.inl ⟨by rfl, ?_⟩) (by assumption) ?_
      rotate_left 1
      · intro w hSw
        go_simp
        all_goals with_reducible rfl
      try simp only [List.getElem_toArray, List.getElem_cons_succ, List.getElem_cons_zero, Act.put, List.setIfInBounds_toArray, List.set_cons_zero, List.set_cons_succ]
      refine wpAnyH_take (i := 16) (oi := _) (v := ?_) rfl (by kernel_rfl) (by kernel_rfl) (by kernel_rfl) (fun _ _ _ h => h) (Or.inl ⟨by rfl, ?_⟩) (by assumption) ?_
      rotate_left 1
      · intro w hSw
        go_simp
        all_goals with_reducible rfl
      try simp only [List.getElem_toArray, List.getElem_cons_succ, List.getElem_cons_zero, Act.put, List.setIfInBounds_toArray, List.set_cons_zero, List.set_cons_succ]
      refine wpAnyH_take (i := 17) (oi := _) (v := ?_) rfl (by kernel_rfl) (by kernel_rfl) (by kernel_rfl) (fun _ _ _ h => h) (Or.inl ⟨by rfl, ?_⟩) (by assumption) ?_
      rotate_left 1
      · intro w hSw
        go_simp
        all_goals with_reducible rfl
      try simp only [List.getElem_toArray, List.getElem_cons_succ, List.getElem_cons_zero, Act.put, List.setIfInBounds_toArray, List.set_cons_zero, List.set_cons_succ]
      refine wpAnyH_take (i := 18) (oi := _) (v := ?_) rfl (by kernel_rfl) (by kernel_rfl) (by kernel_rfl) (fun _ _ _ h => h) (Or.inl ⟨by rfl, ?_⟩) (by assumption) ?_
      rotate_left 1
      · intro w hSw
        go_simp
        all_goals with_reducible rfl
      try simp only [List.getElem_toArray, List.getElem_cons_succ, List.getElem_cons_zero, Act.put, List.setIfInBounds_toArray, List.set_cons_zero, List.set_cons_succ]
      refine wpAnyH_take (i := 19) (oi := _) (v := ?_) rfl (by kernel_rfl) (by kernel_rfl) (by kernel_rfl) (fun _ _ _ h => h) (Or.inl ⟨by rfl, ?_⟩) (by assumption) ?_
      rotate_left 1
      · intro w hSw
        go_simp
        all_goals with_reducible rfl
      try simp only [List.getElem_toArray, List.getElem_cons_succ, List.getElem_cons_zero, Act.put, List.setIfInBounds_toArray, List.set_cons_zero, List.set_cons_succ]
      refine wpAnyH_take (i := 20) (oi := _) (v := ?_) rfl (by kernel_rfl) (by kernel_rfl) (by kernel_rfl) (fun _ _ _ h => h) (Or.inl ⟨by rfl, ?_⟩) (by assumption) ?_
      rotate_left 1
      · intro w hSw
        go_simp
        all_goals with_reducible rfl
      try simp only [List.getElem_toArray, List.getElem_cons_succ, List.getElem_cons_zero, Act.put, List.setIfInBounds_toArray, List.set_cons_zero, List.set_cons_succ]
      refine wpAnyH_take (i := 21) (oi := _) (v := ?_) rfl (by kernel_rfl) (by kernel_rfl) (by kernel_rfl) (fun _ _ _ h => h) (Or.inl ⟨by rfl, ?_⟩) (by assumption) ?_
      rotate_left 1
      · intro w hSw
        go_simp
        all_goals with_reducible rfl
      try simp only [List.getElem_toArray, List.getElem_cons_succ, List.getElem_cons_zero, Act.put, List.setIfInBounds_toArray, List.set_cons_zero, List.set_cons_succ]
      refine wpAnyH_take (i := 22) (oi := _) (v := ?_) rfl (by kernel_rfl) (by kernel_rfl) (by kernel_rfl) (fun _ _ _ h => h) (Or.inl ⟨by rfl, ?_⟩) (by assumption) ?_
      rotate_left 1
      · intro w hSw
        go_simp
        all_goals with_reducible rfl
      try simp only [List.getElem_toArray, List.getElem_cons_succ, List.getElem_cons_zero, Act.put, List.setIfInBounds_toArray, List.set_cons_zero, List.set_cons_succ]
      refine wpAnyH_take (i := 23) (oi := _) (v := ?_) rfl (by kernel_rfl) (by kernel_rfl) (by kernel_rfl) (fun _ _ _ h => h) (Or.inl ⟨by rfl, ?_⟩) (by assumption) ?_
      rotate_left 1
      · intro w hSw
        go_simp
        all_goals with_reducible rfl
      try simp only [List.getElem_toArray, List.getElem_cons_succ, List.getElem_cons_zero, Act.put, List.setIfInBounds_toArray, List.set_cons_zero, List.set_cons_succ]
      refine wpAnyH_take (i := 24) (oi := _) (v := ?_) rfl (by kernel_rfl) (by kernel_rfl) (by kernel_rfl) (fun _ _ _ h => h) (Or.inl ⟨by rfl, ?_⟩) (by assumption) ?_
      rotate_left 1
      · intro w hSw
        go_simp
        all_goals with_reducible rfl
      try simp only [List.getElem_toArray, List.getElem_cons_succ, List.getElem_cons_zero, Act.put, List.setIfInBounds_toArray, List.set_cons_zero, List.set_cons_succ]
      refine wpAnyH_take (i := 25) (oi := _) (v := ?_) rfl (by kernel_rfl) (by kernel_rfl) (by kernel_rfl) (fun _ _ _ h => h) (Or.inl ⟨by rfl, ?_⟩) (by assumption) ?_
      rotate_left 1
      · intro w hSw
        go_simp
        all_goals with_reducible rfl
      try simp only [List.getElem_toArray, List.getElem_cons_succ, List.getElem_cons_zero, Act.put, List.setIfInBounds_toArray, List.set_cons_zero, List.set_cons_succ]
      refine wpAnyH_done (by kernel_rfl) ?_ _
      refine NoPanic.normal ?_
      have hb : Aside (Below w.heap.size w (w5.alloc (.cells C 5)).drew) := (((K2.out.step K5.out).alloc (K2.out.step K5.out).size _).drew)
      clear hx
      go_wp2_with fail
      go_ret
      exact ⟨rfl, hb.out⟩
    case inr =>
      have HS : Aside (∀ (j : Nat) u, (cellsOf ms)[j]? = some u → w.cell? (ad.add j) = some u) := hsrc
      clear hsrc
      go_enter Tryd.func8, Tryd.ntmps8
      go_wp2_with fail
      refine S.mono ?_; rintro e w1 ⟨rfl, hb1⟩
      go_wp2_with fail
      refine (P w1).mono ?_; rintro e w2 ⟨g, c, rfl, hP⟩
      have K2 : Aside (Keeps w w2) := (show Keeps w w1 from hb1).step hP.out.2
      have HC : Aside (∀ (j : Nat) u, (cellsOf l)[j]? = some u → w2.cell? ((⟨g, 0, none⟩ : Addr).add j) = some u) := hP.out.1.cells rfl
      clear hb1
      go_wp2_with fail
      refine (R _).mono ?_; rintro e w3 ⟨rfl, rfl⟩
      go_wp2_with (at_builtin; refine wpList_append_own _ rfl _ _ 31 rfl w2.heap.size 5 i0 (.int .u8 0) 1 1 Tryd.underlying31 hi hz0 hz1 hz2 rfl (by decide) (.slice (some ⟨w2.heap.size, 0, none⟩) 0 0) 0 [] rfl (World.ownsRow_lit w2 #[] 0 (Nat.le_refl _) (by unfold maxLen; omega) rfl) ⟨g, 0, none⟩ L c (cellsOf l) rfl ?c1 ?c2 ?c3 ?c4 ?c5 ?c6 ?_)
      case c1 => rw [cellsOf_length, hL.out, Nat.mul_one]
      case c2 =>
        intro j u hu
        have h2 := HC.out j u hu
        rw [World.cell?_alloc_lt _ _ _ (lt_of_cell h2)]
        exact h2
      case c3 => intro u hu; obtain ⟨y, -, rfl⟩ := List.mem_map.1 hu; rfl
      case c4 => unfold maxLen; omega
      case c5 => omega
      case c6 => simp
      intro v3 w3 hown3 hgrow3 _
      have N3 : Aside (w3.ownsRow w2.heap.size 5 1 v3 L (cellsOf l) ∧ Keeps w2 w3) :=
        ⟨owns_cast hown3 (by omega) (by simp), ((Below.refl w2.heap.size w2).alloc (Nat.le_refl _) _).grown hgrow3 (by simp) (fun q hq => by simp [Value.ownBlock] at hq; omega)⟩
      clear hown3 hgrow3
      go_wp2_with (at_builtin; refine wpList_append_own _ rfl _ _ 31 rfl w2.heap.size 5 i0 (.int .u8 0) 1 1 Tryd.underlying31 hi hz0 hz1 hz2 rfl (by decide) v3 L (cellsOf l) rfl N3.out.1 ad len cap (cellsOf ms) rfl ?c1 ?c2 ?c3 ?c4 ?c5 ?c6 ?_)
      case c1 => rw [cellsOf_length, HM.out.1, Nat.mul_one]
      case c2 =>
        intro j u hu
        have h2 := HS.out j u hu
        rw [(K2.out.step N3.out.2).cell (lt_of_cell h2)]
        exact h2
      case c3 => intro u hu; obtain ⟨y, -, rfl⟩ := List.mem_map.1 hu; rfl
      case c4 => unfold maxLen; omega
      case c5 => omega
      case c6 => exact N3.out.2.size
      intro v4 w4 hown4 hgrow4 _
      have N4 : Aside (w4.ownsRow w2.heap.size 5 1 v4 (l ++ ms).length (cellsOf (l ++ ms)) ∧ Keeps w2 w4) :=
        ⟨owns_cast hown4 (by rw [List.length_append, hL.out, HM.out.1]) (by rw [cellsOf_append]), N3.out.2.grown hgrow4 N3.out.2.size (fun q hq => (N3.out.1.lt q hq).1)⟩
      clear hown4 hgrow4 N3
      have NX := next_put x l ms v4 w2.heap.size w4 (H.out.1.below (K2.out.step N4.out.2) (Nat.le_refl _)) Q.out hl.out HM.out.2 N4.out.1
      rw [hL.out] at NX
      go_wp2_with fail
      refine NX.mono ?_; rintro e w5 ⟨rfl, k5⟩
      have K5 : Aside (Keeps w2 w5) := N4.out.2.step k5
      clear k5 NX
      go_wp2_with fail
      obtain ⟨Row, hRow⟩ : ∃ Row : World → Prop, Hid (Row = fun W => ∀ j, j < l.length → W.cell? ⟨g, 0 + j, none⟩ = some (.int .u8 (l.getD j 0))) := ⟨_, rfl⟩
      have hR0 : Row w5 := by
        rw [hRow.out]; intro j hj
        have h2 := HC.out j (.int .u8 (l.getD j 0)) (by simp [cellsOf, List.getD_eq_getElem?_getD, hj])
        rw [show (Addr.add ⟨g, 0, none⟩ j : Addr) = ⟨g, 0 + j, none⟩ by simp [Addr.add]; exact fun h => h.symm] at h2
        rw [K5.out.cell (lt_of_cell h2)]; exact h2
      have hR1 : ∀ W, Row W → Row W.drew := by rw [hRow.out]; exact fun W h => h
      have hR2 : ∀ W o, Row W → Row (W.alloc o) := by
        rw [hRow.out]; intro W o h j hj
        rw [World.cell?_alloc_lt _ _ _ (lt_of_cell (h j hj))]; exact h j hj
      have hY : ∀ W, Row W → (convert 31 9 (.slice (some ⟨g, 0, none⟩) L c)).run Tryd.prog W = .ok (.string (strOfNums l)) W := by
        intro W h
        rw [hRow.out] at h
        have := conv_row W g 0 c l h
        rwa [hL.out] at this
      obtain ⟨C, hC⟩ : ∃ C, Hid (cells (put x) = C) := ⟨_, rfl⟩
      have PR : ∀ w : World, Calls Tryd.prog 30 #[.int .i64 x] w fun e w' => e = .returned (.slice (some ⟨w.heap.size, 0, none⟩) L L) ∧ w.alloc (.cells C 5) = w' := fun w => by
        have := put_any x w Q.out
        rw [hC.out, hl.out, hL.out] at this
        exact this
      have hX : ∀ W : World, (convert 31 9 (.slice (some ⟨W.heap.size, 0, none⟩) L L)).run Tryd.prog (W.alloc (.cells C 5)) = .ok (.string (strOfNums l)) (W.alloc (.cells C 5)) := fun W => by
        have := conv_row (W.alloc (.cells C 5)) W.heap.size 0 L l (fun j hj => by
          rw [World.cell?_alloc_at _ _ _ _ rfl, ← hC.out, hl.out]
          simp [cells, List.getD_eq_getElem?_getD, List.getElem?_eq_getElem hj])
        rw [hL.out] at this
        exact this
      generalize strOfNums l = X at hY hX
      refine wp_region_noPanic ?_
      refine wp_region_held_drew (S := Row) (by kernel_rfl) (hR1 _ hR0) (fun hHeld => ?_)
      refine wpAnyH_take (i := 0) (oi := _) (v := ?_) rfl (by kernel_rfl) (by kernel_rfl) (by kernel_rfl) (fun _ _ _ h => h) (Or.inl ⟨by rfl, ?_⟩) (by assumption) ?_
      rotate_left 1
      · intro w hSw
        go_simp
        all_goals with_reducible rfl
      try simp only [List.getElem_toArray, List.getElem_cons_succ, List.getElem_cons_zero, Act.put, List.setIfInBounds_toArray, List.set_cons_zero, List.set_cons_succ]
      refine wpAnyH_take (i := 1) (oi := _) (v := ?_) rfl (by kernel_rfl) (by kernel_rfl) (by kernel_rfl) (fun _ _ _ h => h) (Or.inl ⟨by rfl, ?_⟩) (by assumption) ?_
      rotate_left 1
      · intro w hSw
        go_simp
        all_goals with_reducible rfl
      try simp only [List.getElem_toArray, List.getElem_cons_succ, List.getElem_cons_zero, Act.put, List.setIfInBounds_toArray, List.set_cons_zero, List.set_cons_succ]
      refine wpAnyH_take (i := 2) (oi := _) (v := ?_) rfl (by kernel_rfl) (by kernel_rfl) (by kernel_rfl) (fun _ _ _ h => h) (Or.inl ⟨by rfl, ?_⟩) (by assumption) ?_
      rotate_left 1
      · intro w hSw
        go_simp
        all_goals with_reducible rfl
      try simp only [List.getElem_toArray, List.getElem_cons_succ, List.getElem_cons_zero, Act.put, List.setIfInBounds_toArray, List.set_cons_zero, List.set_cons_succ]
      refine wpAnyH_take (i := 3) (oi := _) (v := ?_) rfl (by kernel_rfl) (by kernel_rfl) (by kernel_rfl) (fun _ _ _ h => h) (Or.inl ⟨by rfl, ?_⟩) (by assumption) ?_
      rotate_left 1
      · intro w hSw
        go_simp
        all_goals with_reducible rfl
      try simp only [List.getElem_toArray, List.getElem_cons_succ, List.getElem_cons_zero, Act.put, List.setIfInBounds_toArray, List.set_cons_zero, List.set_cons_succ]
      refine wpAnyH_take (i := 4) (oi := _) (v := ?_) rfl (by kernel_rfl) (by kernel_rfl) (by kernel_rfl) (fun _ _ _ h => h) (Or.inl ⟨by rfl, ?_⟩) (by assumption) ?_
      rotate_left 1
      · intro w hSw
        have hy := hY w hSw
        go_simp
        all_goals with_reducible rfl
      try simp only [List.getElem_toArray, List.getElem_cons_succ, List.getElem_cons_zero, Act.put, List.setIfInBounds_toArray, List.set_cons_zero, List.set_cons_succ]
      refine wpAnyH_take (i := 5) (oi := _) (v := ?_) rfl (by kernel_rfl) (by kernel_rfl) (by kernel_rfl) (fun _ _ _ h => h) (Or.inl ⟨by rfl, ?_⟩) (by assumption) ?_
      rotate_left 1
      · intro w hSw
        go_simp
        all_goals with_reducible rfl
      try simp only [List.getElem_toArray, List.getElem_cons_succ, List.getElem_cons_zero, Act.put, List.setIfInBounds_toArray, List.set_cons_zero, List.set_cons_succ]
      refine wpAnyH_ready (rs := [6]) (by kernel_rfl) (by simp) ?_
      refine AllReadyH.cons (o := _) rfl (fun K hK => ?_) AllReadyH.nil
      go_simp
      refine (PR _).mono ?_; rintro e w' ⟨rfl, rfl⟩
      refine hK.out _ _ ?_ (fun hHeld => ?_)
      · exact hR2 _ _ hHeld
      clear hK K
      try simp only [List.getElem_toArray, List.getElem_cons_succ, List.getElem_cons_zero, Act.put, List.setIfInBounds_toArray, List.set_cons_zero, List.set_cons_succ]
      have hx : (convert 31 9 (.slice (some ⟨w5.heap.size, 0, none⟩) L L)).run Tryd.prog (w5.alloc (.cells C 5)).drew = .ok (.string X) (w5.alloc (.cells C 5)).drew := hX w5.drew
      refine wpAnyH_ready (rs := [7]) (by kernel_rfl) (by simp) ?_
      refine AllReadyH.cons (o := _) rfl (fun K hK => ?_) AllReadyH.nil
      go_simp
      refine hK.out _ _ ?_ (fun hHeld => ?_)
      · assumption
      clear hK K
      try simp only [List.getElem_toArray, List.getElem_cons_succ, List.getElem_cons_zero, Act.put, List.setIfInBounds_toArray, List.set_cons_zero, List.set_cons_succ]
      refine wpAnyH_take (i := 8) (oi := _) (v := ?_) rfl (by kernel_rfl) (by kernel_rfl) (by kernel_rfl) (fun _ _ _ h => h) (Or.inl ⟨by rfl, ?_⟩) (by assumption) ?_
      rotate_left 1
      · intro w hSw
        go_simp
        all_goals with_reducible rfl
      try simp only [List.getElem_toArray, List.getElem_cons_succ, List.getElem_cons_zero, Act.put, List.setIfInBounds_toArray, List.set_cons_zero, List.set_cons_succ]
      refine wpAnyH_take (i := 9) (oi := _) (v := ?_) rfl (by kernel_rfl) (by kernel_rfl) (by kernel_rfl) (fun _ _ _ h => h) (Or.inl ⟨by rfl, ?_⟩) (by assumption) ?_
      rotate_left 1
      · intro w hSw
        go_simp
        all_goals with_reducible rfl
      try simp only [List.getElem_toArray, List.getElem_cons_succ, List.getElem_cons_zero, Act.put, List.setIfInBounds_toArray, List.set_cons_zero, List.set_cons_succ]
      refine wpAnyH_take (i := 10) (oi := _) (v := ?_) rfl (by kernel_rfl) (by kernel_rfl) (by kernel_rfl) (fun _ _ _ h => h) (Or.inl ⟨by rfl, ?_⟩) (by assumption) ?_
      rotate_left 1
      · intro w hSw
        go_simp
        all_goals with_reducible rfl
      try simp only [List.getElem_toArray, List.getElem_cons_succ, List.getElem_cons_zero, Act.put, List.setIfInBounds_toArray, List.set_cons_zero, List.set_cons_succ]
      refine wpAnyH_take (i := 11) (oi := _) (v := ?_) rfl (by kernel_rfl) (by kernel_rfl) (by kernel_rfl) (fun _ _ _ h => h) (Or.inl ⟨by rfl, ?_⟩) (by assumption) ?_
      rotate_left 1
      · intro w hSw
        go_simp
        all_goals with_reducible rfl
      try simp only [List.getElem_toArray, List.getElem_cons_succ, List.getElem_cons_zero, Act.put, List.setIfInBounds_toArray, List.set_cons_zero, List.set_cons_succ]
      refine wpAnyH_take (i := 12) (oi := _) (v := ?_) rfl (by kernel_rfl) (by kernel_rfl) (by kernel_rfl) (fun _ _ _ h => h) (Or.inl ⟨by rfl, ?_⟩) (by assumption) ?_
      rotate_left 1
      · intro w hSw
        go_simp
        all_goals with_reducible rfl
      try simp only [List.getElem_toArray, List.getElem_cons_succ, List.getElem_cons_zero, Act.put, List.setIfInBounds_toArray, List.set_cons_zero, List.set_cons_succ]
      refine wpAnyH_take (i := 13) (oi := _) (v := ?_) rfl (by kernel_rfl) (by kernel_rfl) (by kernel_rfl) (fun _ _ _ h => h) (Or.inl ⟨by rfl, ?_⟩) (by assumption) ?_
      rotate_left 1
      · intro w hSw
        go_simp
        all_goals with_reducible rfl
      try simp only [List.getElem_toArray, List.getElem_cons_succ, List.getElem_cons_zero, Act.put, List.setIfInBounds_toArray, List.set_cons_zero, List.set_cons_succ]
      refine wpAnyH_take (i := 14) (oi := _) (v := ?_) rfl (by kernel_rfl) (by kernel_rfl) (by kernel_rfl) (fun _ _ _ h => h) (Or.inl ⟨by rfl, ?_⟩) (by assumption) ?_
      rotate_left 1
      · intro w hSw
        go_simp
        all_goals with_reducible rfl
      try simp only [List.getElem_toArray, List.getElem_cons_succ, List.getElem_cons_zero, Act.put, List.setIfInBounds_toArray, List.set_cons_zero, List.set_cons_succ]
      refine wpAnyH_take (i := 15) (oi := _) (v := ?_) rfl (by kernel_rfl) (by kernel_rfl) (by kernel_rfl) (fun _ _ _ h => h) (Or.inl ⟨by rfl, ?_⟩) (by assumption) ?_
      rotate_left 1
      · intro w hSw
        go_simp
        all_goals with_reducible rfl
      try simp only [List.getElem_toArray, List.getElem_cons_succ, List.getElem_cons_zero, Act.put, List.setIfInBounds_toArray, List.set_cons_zero, List.set_cons_succ]
      refine wpAnyH_take (i := 16) (oi := _) (v := ?_) rfl (by kernel_rfl) (by kernel_rfl) (by kernel_rfl) (fun _ _ _ h => h) (Or.inl ⟨by rfl, ?_⟩) (by assumption) ?_
      rotate_left 1
      · intro w hSw
        go_simp
        all_goals with_reducible rfl
      try simp only [List.getElem_toArray, List.getElem_cons_succ, List.getElem_cons_zero, Act.put, List.setIfInBounds_toArray, List.set_cons_zero, List.set_cons_succ]
      refine wpAnyH_take (i := 17) (oi := _) (v := ?_) rfl (by kernel_rfl) (by kernel_rfl) (by kernel_rfl) (fun _ _ _ h => h) (Or.inl ⟨by rfl, ?_⟩) (by assumption) ?_
      rotate_left 1
      · intro w hSw
        go_simp
        all_goals with_reducible rfl
      try simp only [List.getElem_toArray, List.getElem_cons_succ, List.getElem_cons_zero, Act.put, List.setIfInBounds_toArray, List.set_cons_zero, List.set_cons_succ]
      refine wpAnyH_take (i := 18) (oi := _) (v := ?_) rfl (by kernel_rfl) (by kernel_rfl) (by kernel_rfl) (fun _ _ _ h => h) (Or.inl ⟨by rfl, ?_⟩) (by assumption) ?_
      rotate_left 1
      · intro w hSw
        go_simp
        all_goals with_reducible rfl
      try simp only [List.getElem_toArray, List.getElem_cons_succ, List.getElem_cons_zero, Act.put, List.setIfInBounds_toArray, List.set_cons_zero, List.set_cons_succ]
      refine wpAnyH_take (i := 19) (oi := _) (v := ?_) rfl (by kernel_rfl) (by kernel_rfl) (by kernel_rfl) (fun _ _ _ h => h) (Or.inl ⟨by rfl, ?_⟩) (by assumption) ?_
      rotate_left 1
      · intro w hSw
        go_simp
        all_goals with_reducible rfl
      try simp only [List.getElem_toArray, List.getElem_cons_succ, List.getElem_cons_zero, Act.put, List.setIfInBounds_toArray, List.set_cons_zero, List.set_cons_succ]
      refine wpAnyH_take (i := 20) (oi := _) (v := ?_) rfl (by kernel_rfl) (by kernel_rfl) (by kernel_rfl) (fun _ _ _ h => h) (Or.inl ⟨by rfl, ?_⟩) (by assumption) ?_
      rotate_left 1
      · intro w hSw
        go_simp
        all_goals with_reducible rfl
      try simp only [List.getElem_toArray, List.getElem_cons_succ, List.getElem_cons_zero, Act.put, List.setIfInBounds_toArray, List.set_cons_zero, List.set_cons_succ]
      refine wpAnyH_take (i := 21) (oi := _) (v := ?_) rfl (by kernel_rfl) (by kernel_rfl) (by kernel_rfl) (fun _ _ _ h => h) (Or.inl ⟨by rfl, ?_⟩) (by assumption) ?_
      rotate_left 1
      · intro w hSw
        go_simp
        all_goals with_reducible rfl
      try simp only [List.getElem_toArray, List.getElem_cons_succ, List.getElem_cons_zero, Act.put, List.setIfInBounds_toArray, List.set_cons_zero, List.set_cons_succ]
      refine wpAnyH_take (i := 22) (oi := _) (v := ?_) rfl (by kernel_rfl) (by kernel_rfl) (by kernel_rfl) (fun _ _ _ h => h) (Or.inl ⟨by rfl, ?_⟩) (by assumption) ?_
      rotate_left 1
      · intro w hSw
        go_simp
        all_goals with_reducible rfl
      try simp only [List.getElem_toArray, List.getElem_cons_succ, List.getElem_cons_zero, Act.put, List.setIfInBounds_toArray, List.set_cons_zero, List.set_cons_succ]
      refine wpAnyH_take (i := 23) (oi := _) (v := ?_) rfl (by kernel_rfl) (by kernel_rfl) (by kernel_rfl) (fun _ _ _ h => h) (Or.inl ⟨by rfl, ?_⟩) (by assumption) ?_
      rotate_left 1
      · intro w hSw
        go_simp
        all_goals with_reducible rfl
      try simp only [List.getElem_toArray, List.getElem_cons_succ, List.getElem_cons_zero, Act.put, List.setIfInBounds_toArray, List.set_cons_zero, List.set_cons_succ]
      refine wpAnyH_take (i := 24) (oi := _) (v := ?_) rfl (by kernel_rfl) (by kernel_rfl) (by kernel_rfl) (fun _ _ _ h => h) (Or.inl ⟨by rfl, ?_⟩) (by assumption) ?_
      rotate_left 1
      · intro w hSw
        go_simp
        all_goals with_reducible rfl
      try simp only [List.getElem_toArray, List.getElem_cons_succ, List.getElem_cons_zero, Act.put, List.setIfInBounds_toArray, List.set_cons_zero, List.set_cons_succ]
      refine wpAnyH_take (i := 25) (oi := _) (v := ?_) rfl (by kernel_rfl) (by kernel_rfl) (by kernel_rfl) (fun _ _ _ h => h) (Or.inl ⟨by rfl, ?_⟩) (by assumption) ?_
      rotate_left 1
      · intro w hSw
        go_simp
        all_goals with_reducible rfl
      try simp only [List.getElem_toArray, List.getElem_cons_succ, List.getElem_cons_zero, Act.put, List.setIfInBounds_toArray, List.set_cons_zero, List.set_cons_succ]
      refine wpAnyH_done (by kernel_rfl) ?_ _
      refine NoPanic.normal ?_
      have hb : Aside (Below w.heap.size w (w5.alloc (.cells C 5)).drew) := (((K2.out.step K5.out).alloc (K2.out.step K5.out).size _).drew)
      clear hx
      go_wp2_with fail
      go_ret
      exact ⟨rfl, hb.out⟩
end Go.Proofs.YtgoicbgoelaomaaDoor.utfPuts
