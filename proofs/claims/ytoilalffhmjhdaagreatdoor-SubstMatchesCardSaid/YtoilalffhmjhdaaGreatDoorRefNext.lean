/- The document's Next: it finds the character that Go's decoder gives, or none. -/
import Derived.Test.YtoilalffhmjhdaaGreatDoorRef
import Derived.Laws.BytesArg
import Derived.Deep.RegionHeld3
import Derived.Deep.DrawnRows
import Derived.Deep.LoopGhost
import Derived.Deep.QuietTactic
import Derived.BigQuiet
import Derived.WalkSmall
set_option linter.unusedSimpArgs false
set_option linter.unusedVariables false
namespace Go.Proofs.YtoilalffhmjhdaaGreatDoor.ref
open Go.RowKit Go.Proofs.YtoilalffhmjhdaaGreatDoor.errs Go.Proofs.YtoilalffhmjhdaaGreatDoor.utf Go.Proofs.YtoilalffhmjhdaaGreatDoor.umath Go.Proofs.YtoilalffhmjhdaaGreatDoor.half

theorem conv_row (W : World) (B o c : Nat) (xs : List Int) (h : ∀ j, j < xs.length → W.cell? ⟨B, o + j, none⟩ = some (.int .u8 (xs.getD j 0))) :
    (convert 74 9 (.slice (some ⟨B, o, none⟩) xs.length c)).run Tryz.prog W = .ok (.string (strOfNums xs)) W :=
  run_convert_bytes_arg W _ _ Tryz.underlying74 Tryz.underlying5 B o xs.length c xs rfl h _ Tryz.underlying9

/-- The number of a byte. -/
def bt (s : ByteArray) (j : Nat) : Int := ((s.get! j).toNat : Int)
theorem bt_ge (s : ByteArray) (j : Nat) : 0 ≤ bt s j := by unfold bt; omega
theorem bt_le (s : ByteArray) (j : Nat) : bt s j ≤ 255 := by have := UInt8.toNat_lt (s.get! j); unfold bt; omega

def guessAt (s : ByteArray) (i k : Nat) : Int := guess k (bt s i) (bt s (i + 1)) (bt s (i + 2)) (bt s (i + 3))
def rowAt (s : ByteArray) (i k : Nat) : List Int := row k (bt s i) (bt s (i + 1)) (bt s (i + 2)) (bt s (i + 3))
def HitAt (s : ByteArray) (i k : Nat) : Prop := right (guessAt s i k) = true ∧ put (guessAt s i k) = rowAt s i k

theorem rowAt_length (s : ByteArray) (i k : Nat) (hk : 1 ≤ k) (hk4 : k ≤ 4) : (rowAt s i k).length = k := by
  rcases (show k = 1 ∨ k = 2 ∨ k = 3 ∨ k = 4 by omega) with rfl | rfl | rfl | rfl <;> rfl
theorem rowAt_get (s : ByteArray) (i k j : Nat) (hk : 1 ≤ k) (hk4 : k ≤ 4) (hj : j < k) : (rowAt s i k).getD j 0 = bt s (i + j) := by
  rcases (show k = 1 ∨ k = 2 ∨ k = 3 ∨ k = 4 by omega) with rfl | rfl | rfl | rfl
  · obtain rfl : j = 0 := by omega
    rfl
  · rcases (show j = 0 ∨ j = 1 by omega) with rfl | rfl <;> rfl
  · rcases (show j = 0 ∨ j = 1 ∨ j = 2 by omega) with rfl | rfl | rfl <;> rfl
  · rcases (show j = 0 ∨ j = 1 ∨ j = 2 ∨ j = 3 by omega) with rfl | rfl | rfl | rfl <;> rfl
theorem rowAt_range (s : ByteArray) (i k : Nat) (hk : 1 ≤ k) (hk4 : k ≤ 4) : ∀ x ∈ rowAt s i k, 0 ≤ x ∧ x ≤ 255 := by
  intro x hx
  obtain ⟨j, hj, rfl⟩ := List.getElem_of_mem hx
  have hl := rowAt_length s i k hk hk4
  have := rowAt_get s i k j hk hk4 (by omega)
  rw [List.getD_eq_getElem?_getD, List.getElem?_eq_getElem hj] at this
  simp at this
  rw [this]
  exact ⟨bt_ge _ _, bt_le _ _⟩
theorem put_range (n : Int) (h : right n = true) : ∀ x ∈ put n, 0 ≤ x ∧ x ≤ 255 := by
  obtain ⟨h0, h1, h2⟩ := (right_iff n).1 h
  intro x hx
  unfold put at hx
  split at hx
  · simp at hx; omega
  · split at hx
    · simp at hx; omega
    · split at hx <;> (simp at hx; omega)

theorem nums_inj : ∀ (a c : List Int), (∀ x ∈ a, 0 ≤ x ∧ x ≤ 255) → (∀ x ∈ c, 0 ≤ x ∧ x ≤ 255) → (a.map fun n => UInt8.ofNat n.toNat) = (c.map fun n => UInt8.ofNat n.toNat) → a = c
  | [], [], _, _, _ => rfl
  | [], _ :: _, _, _, h => by simp at h
  | _ :: _, [], _, _, h => by simp at h
  | x :: a, y :: c, ha, hc, h => by
    simp only [List.map_cons, List.cons.injEq] at h
    have hx := ha x (List.mem_cons_self ..)
    have hy := hc y (List.mem_cons_self ..)
    have e : (UInt8.ofNat x.toNat).toNat = (UInt8.ofNat y.toNat).toNat := by rw [h.1]
    simp only [UInt8.toNat_ofNat'] at e
    have : x = y := by omega
    rw [this, nums_inj a c (fun z hz => ha z (List.mem_cons_of_mem _ hz)) (fun z hz => hc z (List.mem_cons_of_mem _ hz)) h.2]
theorem str_eq (a c : List Int) (ha : ∀ x ∈ a, 0 ≤ x ∧ x ≤ 255) (hc : ∀ x ∈ c, 0 ≤ x ∧ x ≤ 255) : ((strOfNums a).toList == (strOfNums c).toList) = decide (a = c) := by
  rw [ByteArray.toList_eq, ByteArray.toList_eq, strOfNums_data, strOfNums_data]
  by_cases h : a = c
  · subst h; simp
  · have : ¬ (a.map fun n => UInt8.ofNat n.toNat) = (c.map fun n => UInt8.ofNat n.toNat) := fun e => h (nums_inj a c ha hc e)
    simp [h, this]

theorem guess_any (s : ByteArray) (b off cap i k : Nat) (w : World) (hB : Bytes s b off w) (hk : 1 ≤ k) (hk4 : k ≤ 4) (hi : i + k ≤ s.size) (hn : s.size ≤ 9223372036854775807) :
    Calls Tryz.prog 77 #[.slice (some ⟨b, off, none⟩) s.size cap, .int .i64 i, .int .i64 k] w fun e w' => e = .returned (.int .i64 (guessAt s i k)) ∧ w = w' := by
  have c : ∀ j, i + j < s.size → w.cell? ⟨b, off + (i + j), none⟩ = some (.int .u8 (bt s (i + j))) := fun j hj => hB (i + j) hj
  rcases (show k = 1 ∨ k = 2 ∨ k = 3 ∨ k = 4 by omega) with rfl | rfl | rfl | rfl
  · exact guess1 s.size cap b off i _ w hi (bt_ge s i) (bt_le s i) (c 0 (by omega))
  · exact guess2 s.size cap b off i _ _ w hi hn (bt_ge s i) (bt_le s i) (bt_ge s (i + 1)) (bt_le s (i + 1)) (c 0 (by omega)) (c 1 (by omega))
  · exact guess3 s.size cap b off i _ _ _ w hi hn (bt_ge s i) (bt_le s i) (bt_ge s (i + 1)) (bt_le s (i + 1)) (bt_ge s (i + 2)) (bt_le s (i + 2)) (c 0 (by omega)) (c 1 (by omega)) (c 2 (by omega))
  · exact guess4 s.size cap b off i _ _ _ _ w hi hn (bt_ge s i) (bt_le s i) (bt_ge s (i + 1)) (bt_le s (i + 1)) (bt_ge s (i + 2)) (bt_le s (i + 2)) (bt_ge s (i + 3)) (bt_le s (i + 3)) (c 0 (by omega)) (c 1 (by omega)) (c 2 (by omega)) (c 3 (by omega))

/-- What the document's Next tells. -/
def refN (s : ByteArray) (i : Nat) : Nat × Nat := if charAt s i = true then Utf8.decode s i else (0, 0)

theorem agrees (s : ByteArray) (i : Nat) (h : i < s.size) : Agrees (s.size - i) (s.get! i).toNat (s.get! (i + 1)).toNat (s.get! (i + 2)).toNat (s.get! (i + 3)).toNat (Utf8.decode s i) := by
  rw [Lib.decode_at]
  exact decode_found _ _ _ _ _ (by omega) (UInt8.toNat_lt _) (UInt8.toNat_lt _) (UInt8.toNat_lt _) (UInt8.toNat_lt _)
theorem charAt_iff (s : ByteArray) (i : Nat) : charAt s i = true ↔ ¬ (Utf8.decode s i = (65533, 1)) := by
  unfold charAt
  generalize Utf8.decode s i = d
  obtain ⟨x, y⟩ := d
  simp only [Bool.not_eq_true', Bool.and_eq_false_iff, beq_eq_false_iff_ne, ne_eq, Prod.mk.injEq]
  omega

/-- No number of bytes that fits makes a character: there is none. -/
theorem refN_none (s : ByteArray) (i : Nat) (h : i < s.size) (hn : ∀ k, 1 ≤ k → k ≤ 4 → i + k ≤ s.size → ¬ HitAt s i k) : refN s i = (0, 0) := by
  unfold refN
  rw [if_neg]
  intro hc
  have f := (agrees s i h).1 ((charAt_iff s i).1 hc)
  exact hn _ f.pos f.most (by have := f.fits; omega) f.hit
/-- The first number of bytes that makes a character is the decoder's. -/
theorem refN_hit (s : ByteArray) (i k : Nat) (h : i + k ≤ s.size) (hk : 1 ≤ k) (hk4 : k ≤ 4) (hh : HitAt s i k) (hn : ∀ j, 1 ≤ j → j < k → ¬ HitAt s i j) : ((refN s i).1 : Int) = guessAt s i k ∧ (refN s i).2 = k := by
  have ag := agrees s i (by omega)
  by_cases hc : charAt s i = true
  · have f := ag.1 ((charAt_iff s i).1 hc)
    have e : (Utf8.decode s i).2 = k := by
      rcases Nat.lt_trichotomy (Utf8.decode s i).2 k with hl | he | hg
      · exact absurd f.hit (hn _ f.pos hl)
      · exact he
      · exact absurd hh (f.less k hk hg)
    unfold refN
    rw [if_pos hc]
    refine ⟨?_, e⟩
    rw [← f.val, e]
    rfl
  · have hd : Utf8.decode s i = (65533, 1) := by
      by_cases hd : Utf8.decode s i = (65533, 1)
      · exact hd
      · exact absurd ((charAt_iff s i).2 hd) hc
    exact absurd hh (ag.2 hd k hk hk4 (by omega))

theorem ret_ii {a b c d : Int} (h : a = b) (k : c = d) : Ending.returned (.tuple #[.int .i64 a, .int .i64 c]) = .returned (.tuple #[.int .i64 b, .int .i64 d]) := by rw [h, k]

attribute [local go_sem ↓] Go.wp_at_zero Go.wp_at_succ
set_option maxRecDepth 100000 in
set_option maxHeartbeats 4000000 in
theorem next_any (s : ByteArray) (b off cap i : Nat) (w : World) (hB : Bytes s b off w) (hi : i < s.size) (hc : s.size ≤ cap) (hn : cap ≤ 9223372036854775807) (hz : s.size ≤ 1000000) :
    Calls Tryz.prog 62 #[.slice (some ⟨b, off, none⟩) s.size cap, .int .i64 i] w fun e w' => e = .returned (.tuple #[.int .i64 (refN s i).1, .int .i64 (refN s i).2]) ∧ Below w.heap.size w w' := by
  obtain ⟨r1, e1⟩ : ∃ r1, Hid (r1 = ((refN s i).1 : Int)) := ⟨_, rfl⟩
  obtain ⟨r2, e2⟩ : ∃ r2, Hid (r2 = ((refN s i).2 : Int)) := ⟨_, rfl⟩
  rw [← e1.out, ← e2.out]
  obtain ⟨n, hs⟩ : ∃ n, Hid (s.size = n) := ⟨_, rfl⟩
  have E : Aside (r1 = ((refN s i).1 : Int) ∧ r2 = ((refN s i).2 : Int)) := ⟨e1, e2⟩
  have B : Aside (Bytes s b off w) := hB
  have hlt : b < w.heap.size := lt_of_cell (hB 0 (by omega))
  clear e1 e2 hB
  rw [hs.out] at hi hc hz ⊢
  have x0 : (0 : Int) ≤ (i : Int) := by omega
  have x1 : (i : Int) < (n : Int) := by omega
  have x3 : (n : Int) ≤ (cap : Int) := by omega
  go_enter Tryz.func62, Tryz.ntmps62
  go_wp2_with fail
  go_loopg [6] 5 (fun g v wr => ∃ k : Nat, v = .int .i64 k ∧ 1 ≤ k ∧ g + k = 6 ∧ Aside (Below w.heap.size w wr ∧ ∀ j, 1 ≤ j → j < k → ¬ HitAt s i j))
  case atStart => exact ⟨1, rfl, by omega, by omega, Below.refl _ _, fun j h1 h2 => by omega⟩
  case round =>
    obtain ⟨k, rfl, hk, hg, hA⟩ := hrel
    by_cases hk4 : k ≤ 4
    · have x4 : (k : Int) ≤ 4 := by omega
      by_cases hin : i + k ≤ n
      · have hBr : Bytes s b off wr := B.out.below hA.out.1 (Nat.le_refl _)
        have G := guess_any s b off cap i k wr hBr hk hk4 (by rw [hs.out]; exact hin) (by rw [hs.out]; omega)
        have hrg := rowAt_range s i k hk hk4
        rw [hs.out] at G
        have x2 : (i : Int) + (k : Int) ≤ (n : Int) := by omega
        obtain ⟨g, hgv⟩ : ∃ g, Hid (guessAt s i k = g) := ⟨_, rfl⟩
        rw [hgv.out] at G
        cases hr : right g with
        | false =>
          have R : ∀ w, Calls Tryz.prog 78 #[.int .i64 g] w fun e w' => e = .returned (.bool false) ∧ w' = w := fun w => (right_no g w hr).mono fun _ _ ⟨a, b⟩ => ⟨a, b.symm⟩
          have hno : Aside (¬ HitAt s i k) := fun h => by rw [HitAt, hgv.out, hr] at h; exact absurd h.1 (by decide)
          clear hr hrg hBr
          go_wp2_with fail
          refine G.mono ?_; rintro e w' ⟨rfl, rfl⟩
          go_wp2_with fail
          go_quiet ((go_at_call 78; exact Calls.quiet_of_same (R _)))
          go_wp2_with fail
          go_roundg (5 - k)
          case measure => omega
          case rel =>
            refine ⟨k + 1, by go_num, by omega, by omega, ?_, fun j h1 h2 => ?_⟩
            · exact below_drewN hA.out.1 _
            · rcases (show j < k ∨ j = k by omega) with h | rfl
              · exact hA.out.2 j h1 h
              · exact hno.out
        | true =>
          have R : ∀ w, Calls Tryz.prog 78 #[.int .i64 g] w fun e w' => e = .returned (.bool true) ∧ w = w' := fun w => right_yes g w hr
          obtain ⟨L, hL⟩ : ∃ L, Hid ((put g).length = L) := ⟨_, rfl⟩
          obtain ⟨C, hC⟩ : ∃ C, Hid (cells (put g) = C) := ⟨_, rfl⟩
          have P : ∀ w : World, Calls Tryz.prog 79 #[.int .i64 g] w fun e w' => e = .returned (.slice (some ⟨w.heap.size, 0, none⟩) L L) ∧ w.alloc (.cells C 5) = w' := fun w => by
            have := put_any g w hr
            rw [hL.out, hC.out] at this
            exact this
          have hX : ∀ W : World, (convert 74 9 (.slice (some ⟨W.heap.size, 0, none⟩) L L)).run Tryz.prog (W.alloc (.cells C 5)) = .ok (.string (strOfNums (put g))) (W.alloc (.cells C 5)) := fun W => by
            have := conv_row (W.alloc (.cells C 5)) W.heap.size 0 L (put g) (fun j hj => by
              rw [World.cell?_alloc_at _ _ _ _ rfl, ← hC.out]
              simp [cells, List.getD_eq_getElem?_getD, List.getElem?_eq_getElem hj])
            rw [hL.out] at this
            exact this
          obtain ⟨Row, hRow⟩ : ∃ Row : World → Prop, Hid (Row = fun W => ∀ j, j < k → W.cell? ⟨b, off + i + j, none⟩ = some (.int .u8 (bt s (i + j)))) := ⟨_, rfl⟩
          have hR0 : Row wr := by
            rw [hRow.out]; intro j hj
            rw [Nat.add_assoc]; exact hBr (i + j) (by rw [hs.out]; omega)
          have hR1 : ∀ W, Row W → Row W.drew := by rw [hRow.out]; exact fun W h => h
          have hR2 : ∀ W o, Row W → Row (W.alloc o) := by
            rw [hRow.out]; intro W o h j hj
            rw [World.cell?_alloc_lt _ _ _ (lt_of_cell (h j hj))]; exact h j hj
          have hY : ∀ W, Row W → (convert 74 9 (.slice (some ⟨b, off + i, none⟩) k (cap - i))).run Tryz.prog W = .ok (.string (strOfNums (rowAt s i k))) W := by
            intro W h
            rw [hRow.out] at h
            have hl := rowAt_length s i k hk hk4
            have := conv_row W b (off + i) (cap - i) (rowAt s i k) (fun j hj => by rw [rowAt_get s i k j hk hk4 (by omega)]; exact h j (by omega))
            rw [hl] at this
            exact this
          have ht := str_eq (put g) (rowAt s i k) (put_range g hr) hrg
          obtain ⟨t, hT⟩ : ∃ t, Hid (decide (put g = rowAt s i k) = t) := ⟨_, rfl⟩
          rw [hT.out] at ht
          generalize strOfNums (put g) = X at *
          generalize strOfNums (rowAt s i k) = Y at *
          have y1 : IntKind.i64.wrap ((i : Int) + (k : Int)) = (i : Int) + (k : Int) := IntWalk.i64_in _ ⟨by omega, by omega⟩
          have y2 : (0 : Int) ≤ (i : Int) + (k : Int) := by omega
          have y3 : ((i : Int) + (k : Int)).toNat = i + k := by omega
          have y4 : (i : Int) + (k : Int) ≤ (cap : Int) := by omega
          have y5 : (i : Int) ≤ (i : Int) + (k : Int) := by omega
          have y6 : ¬ cap = i := by omega
          have Q : Aside (right g = true) := hr
          clear hr hrg hBr
          go_wp2_with fail
          refine G.mono ?_; rintro e w' ⟨rfl, rfl⟩
          go_wp2_with fail
          refine wp_region_noPanic ?_
          refine wp_region_held_drew (S := Row) (by kernel_rfl) (hR1 _ hR0) (fun hHeld => ?_)
          refine wpAnyH_take (i := 0) (oi := _) (v := ?_) rfl (by kernel_rfl) (by kernel_rfl) (by kernel_rfl) (fun _ _ _ h => h) (Or.inl ⟨by rfl, ?_⟩) (by assumption) ?_
          rotate_left 1
          · intro w hSw
            go_simp
            all_goals with_reducible rfl
          try simp only [List.getElem_toArray, List.getElem_cons_succ, List.getElem_cons_zero, Act.put, List.setIfInBounds_toArray, List.set_cons_zero, List.set_cons_succ]
          refine wpAnyH_ready (rs := [1]) (by kernel_rfl) (by simp) ?_
          refine AllReadyH.cons (o := _) rfl (fun K hK => ?_) AllReadyH.nil
          go_simp
          refine (R _).mono ?_; rintro e w' ⟨rfl, rfl⟩
          refine hK.out _ _ ?_ (fun hHeld => ?_)
          · exact hHeld
          clear hK K
          try simp only [List.getElem_toArray, List.getElem_cons_succ, List.getElem_cons_zero, Act.put, List.setIfInBounds_toArray, List.set_cons_zero, List.set_cons_succ]
          refine wpAnyH_take (i := 2) (oi := _) (v := ?_) rfl (by kernel_rfl) (by kernel_rfl) (by kernel_rfl) (fun _ _ _ h => h) (Or.inl ⟨by rfl, ?_⟩) (by assumption) ?_
          rotate_left 1
          · intro w hSw
            go_simp
            all_goals with_reducible rfl
          try simp only [List.getElem_toArray, List.getElem_cons_succ, List.getElem_cons_zero, Act.put, List.setIfInBounds_toArray, List.set_cons_zero, List.set_cons_succ]
          refine wpAnyH_take (i := 3) (oi := _) (v := ?_) rfl (by kernel_rfl) (by kernel_rfl) (by kernel_rfl) (fun _ _ _ h => h) (Or.inl ⟨by rfl, ?_⟩) (by assumption) ?_
          rotate_left 1
          · intro w hSw
            go_simp
            all_goals with_reducible rfl
          try simp only [List.getElem_toArray, List.getElem_cons_succ, List.getElem_cons_zero, Act.put, List.setIfInBounds_toArray, List.set_cons_zero, List.set_cons_succ]
          refine wpAnyH_take (i := 6) (oi := _) (v := ?_) rfl (by kernel_rfl) (by kernel_rfl) (by kernel_rfl) (fun _ _ _ h => h) (Or.inl ⟨by rfl, ?_⟩) (by assumption) ?_
          rotate_left 1
          · intro w hSw
            go_simp
            all_goals with_reducible rfl
          try simp only [List.getElem_toArray, List.getElem_cons_succ, List.getElem_cons_zero, Act.put, List.setIfInBounds_toArray, List.set_cons_zero, List.set_cons_succ]
          refine wpAnyH_take (i := 7) (oi := _) (v := ?_) rfl (by kernel_rfl) (by kernel_rfl) (by kernel_rfl) (fun _ _ _ h => h) (Or.inl ⟨by rfl, ?_⟩) (by assumption) ?_
          rotate_left 1
          · intro w hSw
            go_simp
            all_goals with_reducible rfl
          try simp only [List.getElem_toArray, List.getElem_cons_succ, List.getElem_cons_zero, Act.put, List.setIfInBounds_toArray, List.set_cons_zero, List.set_cons_succ]
          refine wpAnyH_take (i := 8) (oi := _) (v := ?_) rfl (by kernel_rfl) (by kernel_rfl) (by kernel_rfl) (fun _ _ _ h => h) (Or.inl ⟨by rfl, ?_⟩) (by assumption) ?_
          rotate_left 1
          · intro w hSw
            go_simp
            all_goals with_reducible rfl
          try simp only [List.getElem_toArray, List.getElem_cons_succ, List.getElem_cons_zero, Act.put, List.setIfInBounds_toArray, List.set_cons_zero, List.set_cons_succ]
          refine wpAnyH_take (i := 9) (oi := _) (v := ?_) rfl (by kernel_rfl) (by kernel_rfl) (by kernel_rfl) (fun _ _ _ h => h) (Or.inl ⟨by rfl, ?_⟩) (by assumption) ?_
          rotate_left 1
          · intro w hSw
            go_simp
            all_goals with_reducible rfl
          try simp only [List.getElem_toArray, List.getElem_cons_succ, List.getElem_cons_zero, Act.put, List.setIfInBounds_toArray, List.set_cons_zero, List.set_cons_succ]
          refine wpAnyH_take (i := 10) (oi := _) (v := ?_) rfl (by kernel_rfl) (by kernel_rfl) (by kernel_rfl) (fun _ _ _ h => h) (Or.inl ⟨by rfl, ?_⟩) (by assumption) ?_
          rotate_left 1
          · intro w hSw
            go_simp
            all_goals with_reducible rfl
          try simp only [List.getElem_toArray, List.getElem_cons_succ, List.getElem_cons_zero, Act.put, List.setIfInBounds_toArray, List.set_cons_zero, List.set_cons_succ]
          refine wpAnyH_take (i := 11) (oi := _) (v := ?_) rfl (by kernel_rfl) (by kernel_rfl) (by kernel_rfl) (fun _ _ _ h => h) (Or.inl ⟨by rfl, ?_⟩) (by assumption) ?_
          rotate_left 1
          · intro w hSw
            go_simp
            all_goals with_reducible rfl
          try simp only [List.getElem_toArray, List.getElem_cons_succ, List.getElem_cons_zero, Act.put, List.setIfInBounds_toArray, List.set_cons_zero, List.set_cons_succ]
          refine wpAnyH_take (i := 12) (oi := _) (v := ?_) rfl (by kernel_rfl) (by kernel_rfl) (by kernel_rfl) (fun _ _ _ h => h) (Or.inl ⟨by rfl, ?_⟩) (by assumption) ?_
          rotate_left 1
          · intro w hSw
            have hy := hY w hSw
            go_simp
            all_goals with_reducible rfl
          try simp only [List.getElem_toArray, List.getElem_cons_succ, List.getElem_cons_zero, Act.put, List.setIfInBounds_toArray, List.set_cons_zero, List.set_cons_succ]
          refine wpAnyH_ready (rs := [4]) (by kernel_rfl) (by simp) ?_
          refine AllReadyH.cons (o := _) rfl (fun K hK => ?_) AllReadyH.nil
          go_simp
          refine (P _).mono ?_; rintro e w' ⟨rfl, rfl⟩
          refine hK.out _ _ ?_ (fun hHeld => ?_)
          · exact hR2 _ _ hHeld
          clear hK K
          try simp only [List.getElem_toArray, List.getElem_cons_succ, List.getElem_cons_zero, Act.put, List.setIfInBounds_toArray, List.set_cons_zero, List.set_cons_succ]
          have hx : (convert 74 9 (.slice (some ⟨wr.heap.size, 0, none⟩) L L)).run Tryz.prog (wr.alloc (.cells C 5)).drew = .ok (.string X) (wr.alloc (.cells C 5)).drew := hX wr.drew
          refine wpAnyH_ready (rs := [5]) (by kernel_rfl) (by simp) ?_
          refine AllReadyH.cons (o := _) rfl (fun K hK => ?_) AllReadyH.nil
          go_simp
          refine hK.out _ _ ?_ (fun hHeld => ?_)
          · assumption
          clear hK K
          try simp only [List.getElem_toArray, List.getElem_cons_succ, List.getElem_cons_zero, Act.put, List.setIfInBounds_toArray, List.set_cons_zero, List.set_cons_succ]
          refine wpAnyH_take (i := 13) (oi := _) (v := ?_) rfl (by kernel_rfl) (by kernel_rfl) (by kernel_rfl) (fun _ _ _ h => h) (Or.inl ⟨by rfl, ?_⟩) (by assumption) ?_
          rotate_left 1
          · intro w hSw
            go_simp
            all_goals with_reducible rfl
          try simp only [List.getElem_toArray, List.getElem_cons_succ, List.getElem_cons_zero, Act.put, List.setIfInBounds_toArray, List.set_cons_zero, List.set_cons_succ]
          refine wpAnyH_take (i := 14) (oi := _) (v := ?_) rfl (by kernel_rfl) (by kernel_rfl) (by kernel_rfl) (fun _ _ _ h => h) (Or.inl ⟨by rfl, ?_⟩) (by assumption) ?_
          rotate_left 1
          · intro w hSw
            go_simp
            all_goals with_reducible rfl
          try simp only [List.getElem_toArray, List.getElem_cons_succ, List.getElem_cons_zero, Act.put, List.setIfInBounds_toArray, List.set_cons_zero, List.set_cons_succ]
          refine wpAnyH_done (by kernel_rfl) ?_ _
          refine NoPanic.normal ?_
          have hb : Aside (Below w.heap.size w (wr.alloc (.cells C 5)).drew) := ((hA.out.1.alloc hA.out.1.size _).drew)
          clear y1 y2 y3 y4 y5 y6 hx
          cases t with
          | true =>
            have hput : put g = rowAt s i k := of_decide_eq_true hT.out
            have hit : HitAt s i k := ⟨by rw [hgv.out]; exact Q.out, by rw [hgv.out]; exact hput⟩
            have V := refN_hit s i k (by rw [hs.out]; exact hin) hk hk4 hit hA.out.2
            have V : Aside (r1 = g ∧ r2 = (k : Int)) := ⟨by rw [E.out.1, V.1, hgv.out], by rw [E.out.2, V.2]⟩
            clear hput hit
            go_wp2_with fail
            go_ret2
            exact ⟨ret_ii V.out.1.symm V.out.2.symm, hb.out⟩
          | false =>
            have hno : Aside (¬ HitAt s i k) := fun h => by
              have := h.2
              rw [hgv.out] at this
              exact absurd this (of_decide_eq_false hT.out)
            go_wp2_with fail
            go_roundg (5 - k)
            case measure => omega
            case rel =>
              refine ⟨k + 1, by go_num, by omega, by omega, hb.out, fun j h1 h2 => ?_⟩
              rcases (show j < k ∨ j = k by omega) with h | rfl
              · exact hA.out.2 j h1 h
              · exact hno.out
      · have x2 : (n : Int) < (i : Int) + (k : Int) := by omega
        have V := refN_none s i (by rw [hs.out]; exact hi) (fun j h1 h2 h3 => hA.out.2 j h1 (by rw [hs.out] at h3; omega))
        have V : Aside (r1 = 0 ∧ r2 = 0) := ⟨by rw [E.out.1, V]; rfl, by rw [E.out.2, V]; rfl⟩
        go_wp2_with fail
        go_ret2
        exact ⟨ret_ii V.out.1.symm V.out.2.symm, hA.out.1⟩
    · have x4 : (4 : Int) < (k : Int) := by omega
      have V := refN_none s i (by rw [hs.out]; exact hi) (fun j h1 h2 _ => hA.out.2 j h1 (by omega))
      have V : Aside (r1 = 0 ∧ r2 = 0) := ⟨by rw [E.out.1, V]; rfl, by rw [E.out.2, V]; rfl⟩
      go_wp2_with fail
      go_ret2
      exact ⟨ret_ii V.out.1.symm V.out.2.symm, hA.out.1⟩
end Go.Proofs.YtoilalffhmjhdaaGreatDoor.ref
