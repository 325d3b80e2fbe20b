/- The document's own Parse of layer 11. -/
import Derived.Test.YtahlkhaehlemcaaGreatDoorQdNumeric
set_option linter.unusedSimpArgs false
set_option linter.unusedVariables false
namespace Go.Proofs.YtahlkhaehlemcaaGreatDoor.rq
open Go.RowKit Go.Proofs.YtahlkhaehlemcaaGreatDoor.errs Go.Proofs.YtahlkhaehlemcaaGreatDoor.qmath Go.Proofs.YtahlkhaehlemcaaGreatDoor.qread Go.Proofs.YtahlkhaehlemcaaGreatDoor.qfields Go.Proofs.YtahlkhaehlemcaaGreatDoor.qparse Go.Proofs.YtahlkhaehlemcaaGreatDoor.qlaid

def RAddrOut (o : Out) (w : World) (e : Ending) (w' : World) : Prop :=
  match o with
  | .bad k a => e = .returned (.tuple #[.agg #[.int .u8 0, .int .u8 0, .int .u8 0, .int .u8 0], .int .i64 k, .int .i64 a]) ∧ Below w.heap.size w w'
  | .good a b c d => e = .returned (.tuple #[.agg #[.int .u8 a, .int .u8 b, .int .u8 c, .int .u8 d], .int .i64 0, .int .i64 0]) ∧ Below w.heap.size w w'

theorem rcut_parts_out {l : List ByteArray} {w : World} (hl : 1 ≤ l.length) (e : Ending) (w' : World) (h : RCutOut (.parts l) w e w') :
    ∃ g cap, e = .returned (.tuple #[.slice (some ⟨g, 0, none⟩) l.length cap, .int .i64 0, .int .i64 0]) ∧ Aside ((∀ j, j < l.length → w'.cell? ⟨g, j, none⟩ = some (.string (l.getD j ⟨#[]⟩))) ∧ Below w.heap.size w w') := by
  obtain ⟨v, rfl, ho, hb⟩ := h
  obtain ⟨a, cap, rfl, hc⟩ := own_row ho
  obtain ⟨g, rfl, hcc⟩ := hc hl
  refine ⟨g, cap, rfl, fun j hj => ?_, hb⟩
  rw [hcc j hj]
  simp [strs, List.getElem?_map, List.getD_eq_getElem?_getD, List.getElem?_eq_getElem hj]
theorem rest_drop (t : ByteArray) : (restOf t).data.toList = t.data.toList.drop (skipOf t) := by
  unfold restOf skipOf
  split
  · rw [extract_list2]; exact List.take_of_length_le (by rw [List.length_drop, Array.length_toList]; exact Nat.le_refl _)
  · split
    · rw [extract_list2]; exact List.take_of_length_le (by rw [List.length_drop, Array.length_toList]; exact Nat.le_refl _)
    · rfl
theorem skip_le (t : ByteArray) : skipOf t ≤ t.size := by
  unfold skipOf
  split
  · rename_i h; exact hexed_size h
  · split
    · rename_i h; unfold eight at h; simp at h; omega
    · exact Nat.zero_le _
/-- What is left of a part from its first byte on that is no digit, looked for from a place. -/
def alienFrom (b : Nat) (t : ByteArray) (k : Nat) : List UInt8 := (t.data.toList.drop k).dropWhile fun c => (digs b).contains c
theorem alien_from (t : ByteArray) : alien t = alienFrom (baseOf t) t (skipOf t) := by unfold alien alienFrom Lib.trimLeftS; rw [rest_drop]
theorem alienFrom_on {b : Nat} {t : ByteArray} {k : Nat} (h : k < t.size) (hc : (digs b).contains (t.get! k) = true) : alienFrom b t k = alienFrom b t (k + 1) := by
  unfold alienFrom; rw [drop_at h, List.dropWhile_cons_of_pos hc]
theorem alienFrom_hit {b : Nat} {t : ByteArray} {k : Nat} (h : k < t.size) (hc : (digs b).contains (t.get! k) = false) : alienFrom b t k ≠ [] ∧ (alienFrom b t k).length = t.size - k := by
  have e : alienFrom b t k = t.data.toList.drop k := by unfold alienFrom; rw [drop_at h, List.dropWhile_cons_of_neg (by rw [hc]; decide)]
  rw [e]
  refine ⟨by rw [drop_at h]; simp, by rw [List.length_drop, Array.length_toList]; rfl⟩
theorem alienFrom_end {b : Nat} {t : ByteArray} {k : Nat} (h : t.size ≤ k) : alienFrom b t k = [] := by unfold alienFrom; rw [drop_end h]; rfl
theorem read_short_of {t : ByteArray} (h : t.size = 0) : readPart t = .bad 10 0 := by unfold readPart; rw [if_pos h]
theorem read_form_of {t : ByteArray} {k : Nat} (h0 : t.size ≠ 0) (hk : k < t.size) (h : alien t ≠ []) (hl : (alien t).length = t.size - k) : readPart t = .bad 11 k := by
  unfold readPart; rw [if_neg h0, if_neg h, hl]; congr 1; omega
theorem read_right_of {t : ByteArray} (h0 : t.size ≠ 0) (h : alien t = []) : readPart t = .num (numAt (num (baseOf t) 0 (restOf t).data.toList)) := by
  unfold readPart; rw [if_neg h0, if_pos h]

theorem ret_bad {o : Out} {w W : World} {k a : Nat} (ho : o = .bad k a) (R : Res w W) :
    RAddrOut o w (.returned (.tuple #[.agg #[.int .u8 0, .int .u8 0, .int .u8 0, .int .u8 0], .int .i64 k, .int .i64 a])) (inBox W w.heap.size (.int .u8 0) (.int .u8 0) (.int .u8 0) (.int .u8 0)) := by
  rw [ho]
  exact ⟨rfl, inBox_below R.2.2.2.2.1 (Nat.le_refl _)⟩

set_option maxRecDepth 100000 in
set_option maxHeartbeats 8000000 in
theorem rparse_many (s : ByteArray) (a : Nat) (w : World) (hs : s.size ≤ 1000) (h : cut (unended s) = .many a) :
    Calls Tryz.prog 7 #[.string s] w fun e w' => RAddrOut (.bad 15 a) w e w' := by
  have U := fun w => rcut_any s (by omega) w
  have F := fun w => rfields_any (unended s) w (Nat.le_trans (unended_size s) hs)
  rw [h] at F
  have F : ∀ w, Calls Tryz.prog 20 #[.string (unended s), .int .u8 46, .int .i64 4] w fun e w' => e = .returned (.tuple #[.slice none 0 0, .int .i64 15, .int .i64 a]) ∧ Below w.heap.size w w' := F
  obtain ⟨W, hW⟩ : ∃ W, W = w.alloc (.cells #[.int .u8 0, .int .u8 0, .int .u8 0, .int .u8 0] 24) := ⟨_, rfl⟩
  have R : Aside (Res w W) := by rw [hW]; exact res_new w
  replace hW := Lib.hid hW
  generalize unended s = u at *
  clear h
  go_enter Tryz.func7, Tryz.ntmps7
  go_wp2_with fail
  rw [← hW.out]
  refine (U _).mono ?_; rintro e w' ⟨rfl, rfl⟩
  go_wp2_with fail
  refine (F _).mono ?_; rintro e w1 ⟨rfl, hb1⟩
  have R1 := R.out.below hb1
  have RR : Aside (Res w w1) := R1
  obtain ⟨⟨d0, z0⟩, ⟨d1, z1⟩, ⟨d2, z2⟩, ⟨d3, z3⟩, -, -⟩ := R1
  clear R hW U F hb1
  go_wp2_with fail
  exact bodyPost_ret (v := .tuple #[.agg #[.int .u8 0, .int .u8 0, .int .u8 0, .int .u8 0], .int .i64 15, .int .i64 a]) (by simp [results, Tryz.results7, go_sem, d0, d1, d2, d3]) rfl
    (ret_bad rfl RR.out)

/-- The total so far, as the document reckons it. -/
def tot (f : Nat → Nat × Nat) (k : Nat) : Nat → Nat
  | 0 => 0
  | i + 1 => tot f k i + (if i < k then (f i).2 * 256 ^ (3 - i) else (f i).2)
theorem over_first {f : Nat → Nat × Nat} {i : Nat} : ∀ (g j : Nat), j ≤ i → i < j + g → (∀ x, x < i → (f x).2 ≤ 255) → 255 < (f i).2 → over f g j = some (f i).1
  | 0, j, h1, h2, _, _ => by omega
  | g + 1, j, h1, h2, h3, h4 => by
    by_cases e : j = i
    · subst e; exact over_hit h4
    · rw [over_on (by have := h3 j (by omega); omega)]
      exact over_first g (j + 1) (by omega) (by omega) h3 h4
theorem over_none {f : Nat → Nat × Nat} {k : Nat} : ∀ (g j : Nat), j + g ≤ k → (∀ x, x < k → (f x).2 ≤ 255) → over f g j = none
  | 0, j, _, _ => rfl
  | g + 1, j, h1, h3 => by
    rw [over_on (by have := h3 j (by omega); omega)]
    exact over_none g (j + 1) (by omega) h3
theorem laid_first {f : Nat → Nat × Nat} {k i : Nat} (hi : i < k) (h3 : ∀ x, x < i → (f x).2 ≤ 255) (h4 : 255 < (f i).2) : laidOf f k = .bad 16 (f i).1 := by
  unfold laidOf; rw [over_first k 0 (Nat.zero_le _) (by omega) h3 h4]
theorem laid_last {f : Nat → Nat × Nat} {k : Nat} (h3 : ∀ x, x < k → (f x).2 ≤ 255) (h4 : 256 ^ (4 - k) ≤ (f k).2) : laidOf f k = .bad 16 (f k).1 := by
  unfold laidOf; rw [over_none k 0 (by omega) h3]; exact if_pos h4
theorem laid_good {f : Nat → Nat × Nat} {k : Nat} (h3 : ∀ x, x < k → (f x).2 ≤ 255) (h4 : ¬ 256 ^ (4 - k) ≤ (f k).2) : laidOf f k = .good (pick f k 0) (pick f k 1) (pick f k 2) (pick f k 3) := by
  unfold laidOf; rw [over_none k 0 (by omega) h3]; exact if_neg h4
theorem rn_over (b : Nat) (hb : 1 ≤ b) : ∀ (l : List UInt8), rn b 1099511627776 l = 1099511627776
  | [] => rfl
  | c :: r => by
    unfold rn
    rw [Nat.min_eq_right]
    · exact rn_over b hb r
    · have := Nat.le_mul_of_pos_right 1099511627776 (show 0 < b by omega)
      omega
theorem num_ge (b : Nat) (hb : 1 ≤ b) : ∀ (l : List UInt8) (acc m : Nat), num b acc l = some m → acc ≤ m
  | [], acc, m, h => by simp [num] at h; omega
  | c :: r, acc, m, h => by
    by_cases hc : acc * b + dval c < 18446744073709551616
    · rw [num_on hc] at h
      have h1 := num_ge b hb r _ m h
      have h2 := Nat.le_mul_of_pos_right acc (show 0 < b by omega)
      omega
    · rw [num_over hc] at h; cases h
theorem rn_num (b : Nat) (hb : 1 ≤ b) : ∀ (l : List UInt8) (acc : Nat), acc ≤ 1099511627776 → rn b acc l = min (numAt (num b acc l)) 1099511627776
  | [], acc, h => by simp [rn, num, numAt]; omega
  | c :: r, acc, h => by
    by_cases hc : acc * b + dval c < 18446744073709551616
    · rw [num_on hc]
      unfold rn
      by_cases h2 : acc * b + dval c ≤ 1099511627776
      · rw [Nat.min_eq_left h2]
        exact rn_num b hb r _ h2
      · rw [Nat.min_eq_right (by omega), rn_over b hb]
        cases hm : num b (acc * b + dval c) r with
        | none => simp [numAt]
        | some m =>
          have := num_ge b hb r _ m hm
          simp [numAt]; omega
    · rw [num_over hc]
      unfold rn
      rw [Nat.min_eq_right (by omega), rn_over b hb]
      simp [numAt]
/-- The document's number of a right part. -/
theorem rnumber_right (t : ByteArray) (hs : t.size ≤ 1000) (h0 : t.size ≠ 0) (ha : alien t = []) (w : World) :
    Calls Tryz.prog 24 #[.string t] w fun e w' => e = .returned (.int .u64 (min (numOf t) 1099511627776 : Nat)) ∧ Below w.heap.size w w' := by
  have hd : ∀ c ∈ (restOf t).data.toList, isDig (baseOf t) c = true := fun c hc => by
    rw [← digs_any (base_is t)]
    exact digits_of ha c hc
  have := rnumber_any t (by omega) (skip_le t) (by rw [← rest_drop]; exact hd) w
  rw [← rest_drop, rn_num (baseOf t) (by rcases base_is t with h | h | h <;> omega) _ 0 (by decide), ← numOf_num (read_right_of h0 ha)] at this
  exact this

set_option maxRecDepth 100000 in
set_option maxHeartbeats 8000000 in
theorem rparse_parts (s : ByteArray) (l : List ByteArray) (w : World) (hs : s.size ≤ 1000) (h : cut (unended s) = .parts l) :
    Calls Tryz.prog 7 #[.string s] w fun e w' => RAddrOut (outOf l (badFrom l l.length 0)) w e w' := by
  obtain ⟨hl1, hl4, hls⟩ := cut_facts (unended s) _ 0 0 [] l (by simp) (by simp) h
  have U := fun w => rcut_any s (by omega) w
  have F := fun w => rfields_any (unended s) w (Nat.le_trans (unended_size s) hs)
  have hls : ∀ t ∈ l, t.size ≤ 1000 := fun t ht => Nat.le_trans (hls t ht) (Nat.le_trans (unended_size s) hs)
  rw [h] at F
  replace F := fun w => (F w).mono (rcut_parts_out hl1)
  obtain ⟨res, hres⟩ : ∃ res, Hid (outOf l (badFrom l l.length 0) = res) := ⟨_, rfl⟩
  rw [hres.out]
  have HS : Aside (∀ j, (l.getD j ⟨#[]⟩).size ≤ 1000) := getD_size hls
  have HPl : Aside (∀ j, placeOf l j ≤ j * 1001) := placeOf_le hls
  obtain ⟨n, hn⟩ : ∃ n, Hid (l.length = n) := ⟨_, rfl⟩
  rw [hn.out] at hl1 hl4 hres F
  obtain ⟨W, hW⟩ : ∃ W, W = w.alloc (.cells #[.int .u8 0, .int .u8 0, .int .u8 0, .int .u8 0] 24) := ⟨_, rfl⟩
  have R : Aside (Res w W) := by rw [hW]; exact res_new w
  replace hW := Lib.hid hW
  generalize unended s = u at *
  clear h hls
  go_enter Tryz.func7, Tryz.ntmps7
  go_wp2_with fail
  rw [← hW.out]
  refine (U _).mono ?_; rintro e w' ⟨rfl, rfl⟩
  go_wp2_with fail
  refine (F _).mono ?_; rintro e w1 ⟨tb, cap, rfl, hF⟩
  have RR : Aside (Res w w1 ∧ ∀ j, j < n → w1.cell? ⟨tb, j, none⟩ = some (.string (l.getD j ⟨#[]⟩))) := ⟨R.out.below hF.out.2, hF.out.1⟩
  clear R hW U F hF
  go_wp2_with fail
  go_loopg [8, 9] n (fun g v0 v1 wr => ∃ i : Nat, v0 = .int .i64 (placeOf l i) ∧ v1 = .int .i64 i ∧ g + i = n ∧ Aside (outOf l (badFrom l g i) = res ∧ ∀ j, j < i → (l.getD j ⟨#[]⟩).size ≠ 0 ∧ alien (l.getD j ⟨#[]⟩) = []) ∧ w1 = wr)
  case atStart => exact ⟨0, rfl, rfl, by omega, ⟨hres.out, fun j hj => absurd hj (Nat.not_lt_zero _)⟩, rfl⟩
  case round =>
    clear hres
    obtain ⟨i, rfl, rfl, hg, hA, rfl⟩ := hrel
    cases gk with
    | zero =>
      obtain rfl : n = i := by omega
      have y0 : ¬ ((n : Int) < (n : Int)) := by omega
      have V0 : Aside (laidOf (partsOf l) (n - 1) = res) := by
        have := hA.out.1
        have e : outOf l (badFrom l 0 n) = laidOf (partsOf l) (l.length - 1) := rfl
        rw [e, hn.out] at this
        exact this
      have HNum : Aside (∀ j, j < n → ∀ w, Calls Tryz.prog 24 #[.string (l.getD j ⟨#[]⟩)] w fun e w' => e = .returned (.int .u64 (min (partsOf l j).2 1099511627776 : Nat)) ∧ Below w.heap.size w w') := fun j hj w => rnumber_right _ (HS.out j) (hA.out.2 j hj).1 (hA.out.2 j hj).2 w
      have HP2 : Aside (∀ j, (partsOf l j).1 = placeOf l j ∧ placeOf l (j + 1) = placeOf l j + ((l.getD j ⟨#[]⟩).size + 1)) := fun j => ⟨rfl, Nat.add_assoc _ _ _⟩
      have HW : ∀ m, m ≤ 5 → ∀ w, Calls Tryz.prog 25 #[.int .i64 (m : Nat)] w fun e w' => e = .returned (.int .u64 (pw m)) ∧ w = w' := rpower_any
      obtain ⟨f, hf⟩ : ∃ f, Hid (partsOf l = f) := ⟨_, rfl⟩
      rw [hf.out] at V0 HNum HP2
      clear hA hn hf y0
      have P3 : ∀ w, Calls Tryz.prog 25 #[.int .i64 3] w fun e w' => e = .returned (.int .u64 16777216) ∧ w = w' := fun w => HW 3 (by decide) w
      have P2 : ∀ w, Calls Tryz.prog 25 #[.int .i64 2] w fun e w' => e = .returned (.int .u64 65536) ∧ w = w' := fun w => HW 2 (by decide) w
      have P1 : ∀ w, Calls Tryz.prog 25 #[.int .i64 1] w fun e w' => e = .returned (.int .u64 256) ∧ w = w' := fun w => HW 1 (by decide) w
      have z0 : ¬ ((n : Int) < (n : Int)) := by omega
      go_wp2_with fail
      clear z0
      go_loopg [14, 15, 16] n (fun g v0 v1 v2 wr => ∃ (i : Nat) (ii x pl : Int), v0 = .int .u64 x ∧ v1 = .int .i64 pl ∧ v2 = .int .i64 ii ∧ ii = i ∧ g + i = n ∧ Aside (x = (tot f (n - 1) i : Int) ∧ pl = (placeOf l i : Int) ∧ (∀ j, j < i → j < n - 1 → (f j).2 ≤ 255) ∧ (n - 1 < i → ¬ 256 ^ (4 - (n - 1)) ≤ (f (n - 1)).2) ∧ Keeps w1 wr))
      case atStart => exact ⟨0, 0, 0, 0, rfl, rfl, rfl, rfl, rfl, rfl, rfl, fun j hj => absurd hj (Nat.not_lt_zero _), fun h => absurd h (Nat.not_lt_zero _), Keeps.refl _⟩
      case round =>
        obtain ⟨i, ii, x, pl, rfl, rfl, rfl, hii, hg, hA⟩ := hrel
        by_cases hend : i = n
        · subst hend
          have E : Aside ((res = .good (pick f (i - 1) 0) (pick f (i - 1) 1) (pick f (i - 1) 2) (pick f (i - 1) 3)) ∧ (0 ≤ x ∧ x ≤ 4294967295) ∧ x / 16777216 = (pick f (i - 1) 0 : Nat) ∧ x / 65536 % 256 = (pick f (i - 1) 1 : Nat) ∧ x / 256 % 256 = (pick f (i - 1) 2 : Nat) ∧ x % 256 = (pick f (i - 1) 3 : Nat)) := by
            have h1 := hA.out.1
            have h2 := hA.out.2.2.1
            have h4 := hA.out.2.2.2.1 (by omega)
            have V := V0.out.symm.trans (laid_good (fun x hx => h2 x (by omega) hx) h4)
            refine ⟨V, ?_⟩
            clear V
            rcases (show i = 1 ∨ i = 2 ∨ i = 3 ∨ i = 4 by omega) with rfl | rfl | rfl | rfl
            · skip
              simp [tot] at h1 h4
              refine ⟨⟨by omega, by omega⟩, ?_, ?_, ?_, ?_⟩ <;> (simp [pick]; omega)
            · have q0 := h2 0 (by decide) (by decide)
              simp [tot] at h1 h4
              refine ⟨⟨by omega, by omega⟩, ?_, ?_, ?_, ?_⟩ <;> (simp [pick]; omega)
            · have q0 := h2 0 (by decide) (by decide); have q1 := h2 1 (by decide) (by decide)
              simp [tot] at h1 h4
              refine ⟨⟨by omega, by omega⟩, ?_, ?_, ?_, ?_⟩ <;> (simp [pick]; omega)
            · have q0 := h2 0 (by decide) (by decide); have q1 := h2 1 (by decide) (by decide); have q2 := h2 2 (by decide) (by decide)
              simp [tot] at h1 h4
              refine ⟨⟨by omega, by omega⟩, ?_, ?_, ?_, ?_⟩ <;> (simp [pick]; omega)
          have KK : Aside (Keeps w1 wr) := hA.out.2.2.2.2
          have z0 : ¬ (ii < (i : Int)) := by omega
          have u2 : 0 ≤ x := E.out.2.1.1
          have u3 : x ≤ 4294967295 := E.out.2.1.2
          clear hA hii hg V0 HNum HP2 HW P1 HS HPl
          obtain ⟨⟨d0, z0'⟩, ⟨d1, z1⟩, ⟨d2, z2⟩, ⟨d3, z3⟩, -, -⟩ := RR.out.1.below KK.out
          go_wp2_with fail
          go_region_held3 (fun _ => True) (trivial) ((go_at_call 25; (first | (with_reducible refine (P3 _).mono ?_) | (with_reducible refine (P2 _).mono ?_)); rintro e w' ⟨rfl, rfl⟩))
          all_goals
            go_wp2_with fail
            rw [E.out.1]
            refine bodyPost_ret (v := .tuple #[.agg #[.int .u8 (IntKind.u8.wrap (IntKind.u64.wrap (x.tdiv 16777216))), .int .u8 (IntKind.u8.wrap (IntKind.u64.wrap (x.tdiv 65536))), .int .u8 (IntKind.u8.wrap (IntKind.u64.wrap (x.tdiv 256))), .int .u8 (IntKind.u8.wrap x)], .int .i64 0, .int .i64 0]) (by simp [results, Tryz.results7, go_sem, d0, d1, d2, d3]) rfl ?_
            have w0 : ∀ d : Int, 0 < d → IntKind.u64.wrap (x.tdiv d) = x / d := fun d hd => by
              have h1 : x.tdiv d = x / d := Int.tdiv_eq_ediv_of_nonneg u2
              have h2 : 0 ≤ x / d := Int.ediv_nonneg u2 (by omega)
              have h3 : x / d ≤ x := Int.ediv_le_self _ u2
              rw [h1, IntKind.wrap_u64]
              omega
            refine ⟨by rw [w0 _ (by decide), w0 _ (by decide), w0 _ (by decide), IntKind.wrap_u8, IntKind.wrap_u8, IntKind.wrap_u8, IntKind.wrap_u8, show x / 16777216 % 256 = x / 16777216 by omega, E.out.2.2.1, E.out.2.2.2.1, E.out.2.2.2.2.1, E.out.2.2.2.2.2], ?_⟩
            exact inBox_below (RR.out.1.below (KK.out.step (Below.drew (Below.refl _ _)))).2.2.2.2.1 (Nat.le_refl _)
        rcases (show n = 1 ∨ n = 2 ∨ n = 3 ∨ n = 4 by omega) with rfl | rfl | rfl | rfl
        · have PL : ∀ w, Calls Tryz.prog 25 #[.int .i64 4] w fun e w' => e = .returned (.int .u64 4294967296) ∧ w = w' := fun w => HW 4 (by decide) w
          have hi : i = 0 := by omega
          clear hend
          obtain ⟨⟨d0, z0⟩, ⟨d1, z1⟩, ⟨d2, z2⟩, ⟨d3, z3⟩, -, -⟩ := RR.out.1.below hA.out.2.2.2.2
          rcases hi with rfl
          · obtain rfl : ii = 0 := hii
            have hA : Aside (x = (tot f 0 0 : Int) ∧ pl = (placeOf l 0 : Int) ∧ (∀ j, j < 0 → j < 0 → (f j).2 ≤ 255) ∧ (0 < 0 → ¬ 256 ^ (4 - 0) ≤ (f 0).2) ∧ Keeps w1 wr) := hA
            have V0 : Aside (laidOf f 0 = res) := V0
            have c0 := (hA.out.2.2.2.2.cell (p := ⟨tb, 0, none⟩) (lt_of_cell (RR.out.2 0 (by decide)))).trans (RR.out.2 0 (by decide))
            have C := HNum.out 0 (by decide)
            obtain ⟨t, ht⟩ : ∃ t, Hid (l.getD 0 ⟨#[]⟩ = t) := ⟨_, rfl⟩
            have hts : (t.size : Int) ≤ 1000 := by have := HS.out 0; rw [ht.out] at this; omega
            rw [ht.out] at c0 C
            obtain ⟨mi, hmi⟩ : ∃ mi, Hid (((min (f 0).2 1099511627776 : Nat) : Int) = mi) := ⟨_, rfl⟩
            rw [hmi.out] at C
            have u0 : 0 ≤ mi := by have := hmi.out; omega
            have u1 : mi ≤ 1099511627776 := by have := hmi.out; omega
            have u2 : 0 ≤ x := by have := hA.out.1; omega
            have u3 : x ≤ 4294967295 := by
              have h1 := hA.out.1
              have h2 := hA.out.2.2.1
              skip
              simp [tot] at h1
              omega
            have u4 : pl ≤ 5005 := by have := hA.out.2.1; have := HPl.out 0; omega
            have u5 : 0 ≤ pl := by have := hA.out.2.1; omega
            by_cases hbig : 4294967296 ≤ (f 0).2
            · have u6 : 4294967296 ≤ mi := by have := hmi.out; omega
              have V : Aside (res = .bad 16 (placeOf l 0) ∧ pl = (placeOf l 0 : Int)) := ⟨by
                have := laid_last (k := 0) (fun x hx => hA.out.2.2.1 x hx hx) (by simpa using hbig)
                rw [← V0.out, ← (HP2.out 0).1]
                exact this, hA.out.2.1⟩
              have KK : Aside (Keeps w1 wr) := hA.out.2.2.2.2
              clear hbig hA hmi d0 z0 d1 z1 d2 z2 d3 z3
              go_wp2_with fail
              refine (C _).mono ?_; rintro e w2 ⟨rfl, hb2⟩
              have KQ : Aside (Keeps w1 w2) := KK.out.step hb2
              obtain ⟨⟨d0, z0⟩, ⟨d1, z1⟩, ⟨d2, z2⟩, ⟨d3, z3⟩, -, -⟩ := RR.out.1.below KQ.out
              clear KK hb2
              go_wp2_with fail
              refine (PL _).mono ?_; rintro e w9 ⟨rfl, rfl⟩
              go_wp2_with fail
              rw [V.out.1]
              exact bodyPost_ret (v := .tuple #[.agg #[.int .u8 0, .int .u8 0, .int .u8 0, .int .u8 0], .int .i64 16, .int .i64 (placeOf l 0)]) (by simp [results, Tryz.results7, go_sem, d0, d1, d2, d3, V.out.2]) rfl
                (ret_bad rfl (RR.out.1.below KQ.out))
            · have u6 : mi < 4294967296 := by have := hmi.out; omega
              have N : Aside (x + mi = (tot f 0 1 : Int) ∧ pl + ((t.size : Int) + 1) = (placeOf l 1 : Int) ∧ (∀ j, j < 1 → j < 0 → (f j).2 ≤ 255) ∧ (0 < 1 → ¬ 256 ^ (4 - 0) ≤ (f 0).2) ∧ Keeps w1 wr) := by
                have h1 := hA.out.1
                have h3 := hmi.out
                refine ⟨?_, ?_, ?_, ?_, hA.out.2.2.2.2⟩
                · show _ = ((tot f 0 0 + (if 0 < 0 then (f 0).2 * 256 ^ (3 - 0) else (f 0).2) : Nat) : Int)
                  rw [if_neg (by decide)]
                  omega
                · rw [(HP2.out 0).2, ht.out]; have := hA.out.2.1; omega
                · intro j hj hj2
                  rcases (show j < 0 ∨ j = 0 by omega) with h | rfl
                  · exact hA.out.2.2.1 j h hj2
                  · exact absurd hj2 (by decide)
                · intro hk
                  simpa using hbig
              clear hbig hA hmi d0 z0 d1 z1 d2 z2 d3 z3
              go_wp2_with fail
              refine (C _).mono ?_; rintro e w2 ⟨rfl, hb2⟩
              have N2 : Aside (Keeps w1 w2) := N.out.2.2.2.2.step hb2
              have c9 := (hb2.cell (p := ⟨tb, 0, none⟩) (lt_of_cell c0)).trans c0
              clear hb2
              go_wp2_with fail
              refine (PL _).mono ?_; rintro e w9 ⟨rfl, rfl⟩
              go_wp2_with fail
              go_roundg 0
              case measure => omega
              case rel => exact ⟨1, _, _, _, rfl, rfl, rfl, rfl, rfl, N.out.1, N.out.2.1, N.out.2.2.1, N.out.2.2.2.1, N2.out⟩
        · have PL : ∀ w, Calls Tryz.prog 25 #[.int .i64 3] w fun e w' => e = .returned (.int .u64 16777216) ∧ w = w' := fun w => HW 3 (by decide) w
          have hi : i = 0 ∨ i = 1 := by omega
          clear hend
          obtain ⟨⟨d0, z0⟩, ⟨d1, z1⟩, ⟨d2, z2⟩, ⟨d3, z3⟩, -, -⟩ := RR.out.1.below hA.out.2.2.2.2
          rcases hi with rfl | rfl
          · obtain rfl : ii = 0 := hii
            have hA : Aside (x = (tot f 1 0 : Int) ∧ pl = (placeOf l 0 : Int) ∧ (∀ j, j < 0 → j < 1 → (f j).2 ≤ 255) ∧ (1 < 0 → ¬ 256 ^ (4 - 1) ≤ (f 1).2) ∧ Keeps w1 wr) := hA
            have V0 : Aside (laidOf f 1 = res) := V0
            have c0 := (hA.out.2.2.2.2.cell (p := ⟨tb, 0, none⟩) (lt_of_cell (RR.out.2 0 (by decide)))).trans (RR.out.2 0 (by decide))
            have C := HNum.out 0 (by decide)
            obtain ⟨t, ht⟩ : ∃ t, Hid (l.getD 0 ⟨#[]⟩ = t) := ⟨_, rfl⟩
            have hts : (t.size : Int) ≤ 1000 := by have := HS.out 0; rw [ht.out] at this; omega
            rw [ht.out] at c0 C
            obtain ⟨mi, hmi⟩ : ∃ mi, Hid (((min (f 0).2 1099511627776 : Nat) : Int) = mi) := ⟨_, rfl⟩
            rw [hmi.out] at C
            have u0 : 0 ≤ mi := by have := hmi.out; omega
            have u1 : mi ≤ 1099511627776 := by have := hmi.out; omega
            have u2 : 0 ≤ x := by have := hA.out.1; omega
            have u3 : x ≤ 4294967295 := by
              have h1 := hA.out.1
              have h2 := hA.out.2.2.1
              skip
              simp [tot] at h1
              omega
            have u4 : pl ≤ 5005 := by have := hA.out.2.1; have := HPl.out 0; omega
            have u5 : 0 ≤ pl := by have := hA.out.2.1; omega
            by_cases hbig : 255 < (f 0).2
            · have u6 : 255 < mi := by have := hmi.out; omega
              have V : Aside (res = .bad 16 (placeOf l 0) ∧ pl = (placeOf l 0 : Int)) := ⟨by
                have := laid_first (k := 1) (i := 0) (by decide) (fun x hx => hA.out.2.2.1 x hx (by omega)) hbig
                rw [← V0.out, ← (HP2.out 0).1]
                exact this, hA.out.2.1⟩
              have KK : Aside (Keeps w1 wr) := hA.out.2.2.2.2
              clear hbig hA hmi d0 z0 d1 z1 d2 z2 d3 z3
              go_wp2_with fail
              refine (C _).mono ?_; rintro e w2 ⟨rfl, hb2⟩
              have KQ : Aside (Keeps w1 w2) := KK.out.step hb2
              obtain ⟨⟨d0, z0⟩, ⟨d1, z1⟩, ⟨d2, z2⟩, ⟨d3, z3⟩, -, -⟩ := RR.out.1.below KQ.out
              clear KK hb2
              go_wp2_with fail
              rw [V.out.1]
              exact bodyPost_ret (v := .tuple #[.agg #[.int .u8 0, .int .u8 0, .int .u8 0, .int .u8 0], .int .i64 16, .int .i64 (placeOf l 0)]) (by simp [results, Tryz.results7, go_sem, d0, d1, d2, d3, V.out.2]) rfl
                (ret_bad rfl (RR.out.1.below KQ.out))
            · have u6 : mi ≤ 255 := by have := hmi.out; omega
              have N : Aside (x + mi * 16777216 = (tot f 1 1 : Int) ∧ pl + ((t.size : Int) + 1) = (placeOf l 1 : Int) ∧ (∀ j, j < 1 → j < 1 → (f j).2 ≤ 255) ∧ (1 < 1 → ¬ 256 ^ (4 - 1) ≤ (f 1).2) ∧ Keeps w1 wr) := by
                have h1 := hA.out.1
                have h3 := hmi.out
                refine ⟨?_, ?_, ?_, ?_, hA.out.2.2.2.2⟩
                · show _ = ((tot f 1 0 + (if 0 < 1 then (f 0).2 * 256 ^ (3 - 0) else (f 0).2) : Nat) : Int)
                  rw [if_pos (by decide)]
                  omega
                · rw [(HP2.out 0).2, ht.out]; have := hA.out.2.1; omega
                · intro j hj hj2
                  rcases (show j < 0 ∨ j = 0 by omega) with h | rfl
                  · exact hA.out.2.2.1 j h hj2
                  · omega
                · intro hk
                  exact absurd hk (by decide)
              clear hbig hA hmi d0 z0 d1 z1 d2 z2 d3 z3
              go_wp2_with fail
              refine (C _).mono ?_; rintro e w2 ⟨rfl, hb2⟩
              have N2 : Aside (Keeps w1 w2) := N.out.2.2.2.2.step hb2
              have c9 := (hb2.cell (p := ⟨tb, 0, none⟩) (lt_of_cell c0)).trans c0
              clear hb2
              go_wp2_with fail
              refine (P3 _).mono ?_; rintro e w9 ⟨rfl, rfl⟩
              go_wp2_with fail
              go_roundg 1
              case measure => omega
              case rel => exact ⟨1, _, _, _, rfl, rfl, rfl, rfl, rfl, N.out.1, N.out.2.1, N.out.2.2.1, N.out.2.2.2.1, N2.out⟩
          · obtain rfl : ii = 1 := hii
            have hA : Aside (x = (tot f 1 1 : Int) ∧ pl = (placeOf l 1 : Int) ∧ (∀ j, j < 1 → j < 1 → (f j).2 ≤ 255) ∧ (1 < 1 → ¬ 256 ^ (4 - 1) ≤ (f 1).2) ∧ Keeps w1 wr) := hA
            have V0 : Aside (laidOf f 1 = res) := V0
            have c0 := (hA.out.2.2.2.2.cell (p := ⟨tb, 1, none⟩) (lt_of_cell (RR.out.2 1 (by decide)))).trans (RR.out.2 1 (by decide))
            have C := HNum.out 1 (by decide)
            obtain ⟨t, ht⟩ : ∃ t, Hid (l.getD 1 ⟨#[]⟩ = t) := ⟨_, rfl⟩
            have hts : (t.size : Int) ≤ 1000 := by have := HS.out 1; rw [ht.out] at this; omega
            rw [ht.out] at c0 C
            obtain ⟨mi, hmi⟩ : ∃ mi, Hid (((min (f 1).2 1099511627776 : Nat) : Int) = mi) := ⟨_, rfl⟩
            rw [hmi.out] at C
            have u0 : 0 ≤ mi := by have := hmi.out; omega
            have u1 : mi ≤ 1099511627776 := by have := hmi.out; omega
            have u2 : 0 ≤ x := by have := hA.out.1; omega
            have u3 : x ≤ 4294967295 := by
              have h1 := hA.out.1
              have h2 := hA.out.2.2.1
              have q0 := h2 0 (by decide) (by decide)
              simp [tot] at h1
              omega
            have u4 : pl ≤ 5005 := by have := hA.out.2.1; have := HPl.out 1; omega
            have u5 : 0 ≤ pl := by have := hA.out.2.1; omega
            by_cases hbig : 16777216 ≤ (f 1).2
            · have u6 : 16777216 ≤ mi := by have := hmi.out; omega
              have V : Aside (res = .bad 16 (placeOf l 1) ∧ pl = (placeOf l 1 : Int)) := ⟨by
                have := laid_last (k := 1) (fun x hx => hA.out.2.2.1 x hx hx) (by simpa using hbig)
                rw [← V0.out, ← (HP2.out 1).1]
                exact this, hA.out.2.1⟩
              have KK : Aside (Keeps w1 wr) := hA.out.2.2.2.2
              clear hbig hA hmi d0 z0 d1 z1 d2 z2 d3 z3
              go_wp2_with fail
              refine (C _).mono ?_; rintro e w2 ⟨rfl, hb2⟩
              have KQ : Aside (Keeps w1 w2) := KK.out.step hb2
              obtain ⟨⟨d0, z0⟩, ⟨d1, z1⟩, ⟨d2, z2⟩, ⟨d3, z3⟩, -, -⟩ := RR.out.1.below KQ.out
              clear KK hb2
              go_wp2_with fail
              refine (PL _).mono ?_; rintro e w9 ⟨rfl, rfl⟩
              go_wp2_with fail
              rw [V.out.1]
              exact bodyPost_ret (v := .tuple #[.agg #[.int .u8 0, .int .u8 0, .int .u8 0, .int .u8 0], .int .i64 16, .int .i64 (placeOf l 1)]) (by simp [results, Tryz.results7, go_sem, d0, d1, d2, d3, V.out.2]) rfl
                (ret_bad rfl (RR.out.1.below KQ.out))
            · have u6 : mi < 16777216 := by have := hmi.out; omega
              have N : Aside (x + mi = (tot f 1 2 : Int) ∧ pl + ((t.size : Int) + 1) = (placeOf l 2 : Int) ∧ (∀ j, j < 2 → j < 1 → (f j).2 ≤ 255) ∧ (1 < 2 → ¬ 256 ^ (4 - 1) ≤ (f 1).2) ∧ Keeps w1 wr) := by
                have h1 := hA.out.1
                have h3 := hmi.out
                refine ⟨?_, ?_, ?_, ?_, hA.out.2.2.2.2⟩
                · show _ = ((tot f 1 1 + (if 1 < 1 then (f 1).2 * 256 ^ (3 - 1) else (f 1).2) : Nat) : Int)
                  rw [if_neg (by decide)]
                  omega
                · rw [(HP2.out 1).2, ht.out]; have := hA.out.2.1; omega
                · intro j hj hj2
                  rcases (show j < 1 ∨ j = 1 by omega) with h | rfl
                  · exact hA.out.2.2.1 j h hj2
                  · exact absurd hj2 (by decide)
                · intro hk
                  simpa using hbig
              clear hbig hA hmi d0 z0 d1 z1 d2 z2 d3 z3
              go_wp2_with fail
              refine (C _).mono ?_; rintro e w2 ⟨rfl, hb2⟩
              have N2 : Aside (Keeps w1 w2) := N.out.2.2.2.2.step hb2
              have c9 := (hb2.cell (p := ⟨tb, 1, none⟩) (lt_of_cell c0)).trans c0
              clear hb2
              go_wp2_with fail
              refine (PL _).mono ?_; rintro e w9 ⟨rfl, rfl⟩
              go_wp2_with fail
              go_roundg 0
              case measure => omega
              case rel => exact ⟨2, _, _, _, rfl, rfl, rfl, rfl, rfl, N.out.1, N.out.2.1, N.out.2.2.1, N.out.2.2.2.1, N2.out⟩
        · have PL : ∀ w, Calls Tryz.prog 25 #[.int .i64 2] w fun e w' => e = .returned (.int .u64 65536) ∧ w = w' := fun w => HW 2 (by decide) w
          have hi : i = 0 ∨ i = 1 ∨ i = 2 := by omega
          clear hend
          obtain ⟨⟨d0, z0⟩, ⟨d1, z1⟩, ⟨d2, z2⟩, ⟨d3, z3⟩, -, -⟩ := RR.out.1.below hA.out.2.2.2.2
          rcases hi with rfl | rfl | rfl
          · obtain rfl : ii = 0 := hii
            have hA : Aside (x = (tot f 2 0 : Int) ∧ pl = (placeOf l 0 : Int) ∧ (∀ j, j < 0 → j < 2 → (f j).2 ≤ 255) ∧ (2 < 0 → ¬ 256 ^ (4 - 2) ≤ (f 2).2) ∧ Keeps w1 wr) := hA
            have V0 : Aside (laidOf f 2 = res) := V0
            have c0 := (hA.out.2.2.2.2.cell (p := ⟨tb, 0, none⟩) (lt_of_cell (RR.out.2 0 (by decide)))).trans (RR.out.2 0 (by decide))
            have C := HNum.out 0 (by decide)
            obtain ⟨t, ht⟩ : ∃ t, Hid (l.getD 0 ⟨#[]⟩ = t) := ⟨_, rfl⟩
            have hts : (t.size : Int) ≤ 1000 := by have := HS.out 0; rw [ht.out] at this; omega
            rw [ht.out] at c0 C
            obtain ⟨mi, hmi⟩ : ∃ mi, Hid (((min (f 0).2 1099511627776 : Nat) : Int) = mi) := ⟨_, rfl⟩
            rw [hmi.out] at C
            have u0 : 0 ≤ mi := by have := hmi.out; omega
            have u1 : mi ≤ 1099511627776 := by have := hmi.out; omega
            have u2 : 0 ≤ x := by have := hA.out.1; omega
            have u3 : x ≤ 4294967295 := by
              have h1 := hA.out.1
              have h2 := hA.out.2.2.1
              skip
              simp [tot] at h1
              omega
            have u4 : pl ≤ 5005 := by have := hA.out.2.1; have := HPl.out 0; omega
            have u5 : 0 ≤ pl := by have := hA.out.2.1; omega
            by_cases hbig : 255 < (f 0).2
            · have u6 : 255 < mi := by have := hmi.out; omega
              have V : Aside (res = .bad 16 (placeOf l 0) ∧ pl = (placeOf l 0 : Int)) := ⟨by
                have := laid_first (k := 2) (i := 0) (by decide) (fun x hx => hA.out.2.2.1 x hx (by omega)) hbig
                rw [← V0.out, ← (HP2.out 0).1]
                exact this, hA.out.2.1⟩
              have KK : Aside (Keeps w1 wr) := hA.out.2.2.2.2
              clear hbig hA hmi d0 z0 d1 z1 d2 z2 d3 z3
              go_wp2_with fail
              refine (C _).mono ?_; rintro e w2 ⟨rfl, hb2⟩
              have KQ : Aside (Keeps w1 w2) := KK.out.step hb2
              obtain ⟨⟨d0, z0⟩, ⟨d1, z1⟩, ⟨d2, z2⟩, ⟨d3, z3⟩, -, -⟩ := RR.out.1.below KQ.out
              clear KK hb2
              go_wp2_with fail
              rw [V.out.1]
              exact bodyPost_ret (v := .tuple #[.agg #[.int .u8 0, .int .u8 0, .int .u8 0, .int .u8 0], .int .i64 16, .int .i64 (placeOf l 0)]) (by simp [results, Tryz.results7, go_sem, d0, d1, d2, d3, V.out.2]) rfl
                (ret_bad rfl (RR.out.1.below KQ.out))
            · have u6 : mi ≤ 255 := by have := hmi.out; omega
              have N : Aside (x + mi * 16777216 = (tot f 2 1 : Int) ∧ pl + ((t.size : Int) + 1) = (placeOf l 1 : Int) ∧ (∀ j, j < 1 → j < 2 → (f j).2 ≤ 255) ∧ (2 < 1 → ¬ 256 ^ (4 - 2) ≤ (f 2).2) ∧ Keeps w1 wr) := by
                have h1 := hA.out.1
                have h3 := hmi.out
                refine ⟨?_, ?_, ?_, ?_, hA.out.2.2.2.2⟩
                · show _ = ((tot f 2 0 + (if 0 < 2 then (f 0).2 * 256 ^ (3 - 0) else (f 0).2) : Nat) : Int)
                  rw [if_pos (by decide)]
                  omega
                · rw [(HP2.out 0).2, ht.out]; have := hA.out.2.1; omega
                · intro j hj hj2
                  rcases (show j < 0 ∨ j = 0 by omega) with h | rfl
                  · exact hA.out.2.2.1 j h hj2
                  · omega
                · intro hk
                  exact absurd hk (by decide)
              clear hbig hA hmi d0 z0 d1 z1 d2 z2 d3 z3
              go_wp2_with fail
              refine (C _).mono ?_; rintro e w2 ⟨rfl, hb2⟩
              have N2 : Aside (Keeps w1 w2) := N.out.2.2.2.2.step hb2
              have c9 := (hb2.cell (p := ⟨tb, 0, none⟩) (lt_of_cell c0)).trans c0
              clear hb2
              go_wp2_with fail
              refine (P3 _).mono ?_; rintro e w9 ⟨rfl, rfl⟩
              go_wp2_with fail
              go_roundg 2
              case measure => omega
              case rel => exact ⟨1, _, _, _, rfl, rfl, rfl, rfl, rfl, N.out.1, N.out.2.1, N.out.2.2.1, N.out.2.2.2.1, N2.out⟩
          · obtain rfl : ii = 1 := hii
            have hA : Aside (x = (tot f 2 1 : Int) ∧ pl = (placeOf l 1 : Int) ∧ (∀ j, j < 1 → j < 2 → (f j).2 ≤ 255) ∧ (2 < 1 → ¬ 256 ^ (4 - 2) ≤ (f 2).2) ∧ Keeps w1 wr) := hA
            have V0 : Aside (laidOf f 2 = res) := V0
            have c0 := (hA.out.2.2.2.2.cell (p := ⟨tb, 1, none⟩) (lt_of_cell (RR.out.2 1 (by decide)))).trans (RR.out.2 1 (by decide))
            have C := HNum.out 1 (by decide)
            obtain ⟨t, ht⟩ : ∃ t, Hid (l.getD 1 ⟨#[]⟩ = t) := ⟨_, rfl⟩
            have hts : (t.size : Int) ≤ 1000 := by have := HS.out 1; rw [ht.out] at this; omega
            rw [ht.out] at c0 C
            obtain ⟨mi, hmi⟩ : ∃ mi, Hid (((min (f 1).2 1099511627776 : Nat) : Int) = mi) := ⟨_, rfl⟩
            rw [hmi.out] at C
            have u0 : 0 ≤ mi := by have := hmi.out; omega
            have u1 : mi ≤ 1099511627776 := by have := hmi.out; omega
            have u2 : 0 ≤ x := by have := hA.out.1; omega
            have u3 : x ≤ 4294967295 := by
              have h1 := hA.out.1
              have h2 := hA.out.2.2.1
              have q0 := h2 0 (by decide) (by decide)
              simp [tot] at h1
              omega
            have u4 : pl ≤ 5005 := by have := hA.out.2.1; have := HPl.out 1; omega
            have u5 : 0 ≤ pl := by have := hA.out.2.1; omega
            by_cases hbig : 255 < (f 1).2
            · have u6 : 255 < mi := by have := hmi.out; omega
              have V : Aside (res = .bad 16 (placeOf l 1) ∧ pl = (placeOf l 1 : Int)) := ⟨by
                have := laid_first (k := 2) (i := 1) (by decide) (fun x hx => hA.out.2.2.1 x hx (by omega)) hbig
                rw [← V0.out, ← (HP2.out 1).1]
                exact this, hA.out.2.1⟩
              have KK : Aside (Keeps w1 wr) := hA.out.2.2.2.2
              clear hbig hA hmi d0 z0 d1 z1 d2 z2 d3 z3
              go_wp2_with fail
              refine (C _).mono ?_; rintro e w2 ⟨rfl, hb2⟩
              have KQ : Aside (Keeps w1 w2) := KK.out.step hb2
              obtain ⟨⟨d0, z0⟩, ⟨d1, z1⟩, ⟨d2, z2⟩, ⟨d3, z3⟩, -, -⟩ := RR.out.1.below KQ.out
              clear KK hb2
              go_wp2_with fail
              rw [V.out.1]
              exact bodyPost_ret (v := .tuple #[.agg #[.int .u8 0, .int .u8 0, .int .u8 0, .int .u8 0], .int .i64 16, .int .i64 (placeOf l 1)]) (by simp [results, Tryz.results7, go_sem, d0, d1, d2, d3, V.out.2]) rfl
                (ret_bad rfl (RR.out.1.below KQ.out))
            · have u6 : mi ≤ 255 := by have := hmi.out; omega
              have N : Aside (x + mi * 65536 = (tot f 2 2 : Int) ∧ pl + ((t.size : Int) + 1) = (placeOf l 2 : Int) ∧ (∀ j, j < 2 → j < 2 → (f j).2 ≤ 255) ∧ (2 < 2 → ¬ 256 ^ (4 - 2) ≤ (f 2).2) ∧ Keeps w1 wr) := by
                have h1 := hA.out.1
                have h3 := hmi.out
                refine ⟨?_, ?_, ?_, ?_, hA.out.2.2.2.2⟩
                · show _ = ((tot f 2 1 + (if 1 < 2 then (f 1).2 * 256 ^ (3 - 1) else (f 1).2) : Nat) : Int)
                  rw [if_pos (by decide)]
                  omega
                · rw [(HP2.out 1).2, ht.out]; have := hA.out.2.1; omega
                · intro j hj hj2
                  rcases (show j < 1 ∨ j = 1 by omega) with h | rfl
                  · exact hA.out.2.2.1 j h hj2
                  · omega
                · intro hk
                  exact absurd hk (by decide)
              clear hbig hA hmi d0 z0 d1 z1 d2 z2 d3 z3
              go_wp2_with fail
              refine (C _).mono ?_; rintro e w2 ⟨rfl, hb2⟩
              have N2 : Aside (Keeps w1 w2) := N.out.2.2.2.2.step hb2
              have c9 := (hb2.cell (p := ⟨tb, 1, none⟩) (lt_of_cell c0)).trans c0
              clear hb2
              go_wp2_with fail
              refine (P2 _).mono ?_; rintro e w9 ⟨rfl, rfl⟩
              go_wp2_with fail
              go_roundg 1
              case measure => omega
              case rel => exact ⟨2, _, _, _, rfl, rfl, rfl, rfl, rfl, N.out.1, N.out.2.1, N.out.2.2.1, N.out.2.2.2.1, N2.out⟩
          · obtain rfl : ii = 2 := hii
            have hA : Aside (x = (tot f 2 2 : Int) ∧ pl = (placeOf l 2 : Int) ∧ (∀ j, j < 2 → j < 2 → (f j).2 ≤ 255) ∧ (2 < 2 → ¬ 256 ^ (4 - 2) ≤ (f 2).2) ∧ Keeps w1 wr) := hA
            have V0 : Aside (laidOf f 2 = res) := V0
            have c0 := (hA.out.2.2.2.2.cell (p := ⟨tb, 2, none⟩) (lt_of_cell (RR.out.2 2 (by decide)))).trans (RR.out.2 2 (by decide))
            have C := HNum.out 2 (by decide)
            obtain ⟨t, ht⟩ : ∃ t, Hid (l.getD 2 ⟨#[]⟩ = t) := ⟨_, rfl⟩
            have hts : (t.size : Int) ≤ 1000 := by have := HS.out 2; rw [ht.out] at this; omega
            rw [ht.out] at c0 C
            obtain ⟨mi, hmi⟩ : ∃ mi, Hid (((min (f 2).2 1099511627776 : Nat) : Int) = mi) := ⟨_, rfl⟩
            rw [hmi.out] at C
            have u0 : 0 ≤ mi := by have := hmi.out; omega
            have u1 : mi ≤ 1099511627776 := by have := hmi.out; omega
            have u2 : 0 ≤ x := by have := hA.out.1; omega
            have u3 : x ≤ 4294967295 := by
              have h1 := hA.out.1
              have h2 := hA.out.2.2.1
              have q0 := h2 0 (by decide) (by decide); have q1 := h2 1 (by decide) (by decide)
              simp [tot] at h1
              omega
            have u4 : pl ≤ 5005 := by have := hA.out.2.1; have := HPl.out 2; omega
            have u5 : 0 ≤ pl := by have := hA.out.2.1; omega
            by_cases hbig : 65536 ≤ (f 2).2
            · have u6 : 65536 ≤ mi := by have := hmi.out; omega
              have V : Aside (res = .bad 16 (placeOf l 2) ∧ pl = (placeOf l 2 : Int)) := ⟨by
                have := laid_last (k := 2) (fun x hx => hA.out.2.2.1 x hx hx) (by simpa using hbig)
                rw [← V0.out, ← (HP2.out 2).1]
                exact this, hA.out.2.1⟩
              have KK : Aside (Keeps w1 wr) := hA.out.2.2.2.2
              clear hbig hA hmi d0 z0 d1 z1 d2 z2 d3 z3
              go_wp2_with fail
              refine (C _).mono ?_; rintro e w2 ⟨rfl, hb2⟩
              have KQ : Aside (Keeps w1 w2) := KK.out.step hb2
              obtain ⟨⟨d0, z0⟩, ⟨d1, z1⟩, ⟨d2, z2⟩, ⟨d3, z3⟩, -, -⟩ := RR.out.1.below KQ.out
              clear KK hb2
              go_wp2_with fail
              refine (PL _).mono ?_; rintro e w9 ⟨rfl, rfl⟩
              go_wp2_with fail
              rw [V.out.1]
              exact bodyPost_ret (v := .tuple #[.agg #[.int .u8 0, .int .u8 0, .int .u8 0, .int .u8 0], .int .i64 16, .int .i64 (placeOf l 2)]) (by simp [results, Tryz.results7, go_sem, d0, d1, d2, d3, V.out.2]) rfl
                (ret_bad rfl (RR.out.1.below KQ.out))
            · have u6 : mi < 65536 := by have := hmi.out; omega
              have N : Aside (x + mi = (tot f 2 3 : Int) ∧ pl + ((t.size : Int) + 1) = (placeOf l 3 : Int) ∧ (∀ j, j < 3 → j < 2 → (f j).2 ≤ 255) ∧ (2 < 3 → ¬ 256 ^ (4 - 2) ≤ (f 2).2) ∧ Keeps w1 wr) := by
                have h1 := hA.out.1
                have h3 := hmi.out
                refine ⟨?_, ?_, ?_, ?_, hA.out.2.2.2.2⟩
                · show _ = ((tot f 2 2 + (if 2 < 2 then (f 2).2 * 256 ^ (3 - 2) else (f 2).2) : Nat) : Int)
                  rw [if_neg (by decide)]
                  omega
                · rw [(HP2.out 2).2, ht.out]; have := hA.out.2.1; omega
                · intro j hj hj2
                  rcases (show j < 2 ∨ j = 2 by omega) with h | rfl
                  · exact hA.out.2.2.1 j h hj2
                  · exact absurd hj2 (by decide)
                · intro hk
                  simpa using hbig
              clear hbig hA hmi d0 z0 d1 z1 d2 z2 d3 z3
              go_wp2_with fail
              refine (C _).mono ?_; rintro e w2 ⟨rfl, hb2⟩
              have N2 : Aside (Keeps w1 w2) := N.out.2.2.2.2.step hb2
              have c9 := (hb2.cell (p := ⟨tb, 2, none⟩) (lt_of_cell c0)).trans c0
              clear hb2
              go_wp2_with fail
              refine (PL _).mono ?_; rintro e w9 ⟨rfl, rfl⟩
              go_wp2_with fail
              go_roundg 0
              case measure => omega
              case rel => exact ⟨3, _, _, _, rfl, rfl, rfl, rfl, rfl, N.out.1, N.out.2.1, N.out.2.2.1, N.out.2.2.2.1, N2.out⟩
        · have PL : ∀ w, Calls Tryz.prog 25 #[.int .i64 1] w fun e w' => e = .returned (.int .u64 256) ∧ w = w' := fun w => HW 1 (by decide) w
          have hi : i = 0 ∨ i = 1 ∨ i = 2 ∨ i = 3 := by omega
          clear hend
          obtain ⟨⟨d0, z0⟩, ⟨d1, z1⟩, ⟨d2, z2⟩, ⟨d3, z3⟩, -, -⟩ := RR.out.1.below hA.out.2.2.2.2
          rcases hi with rfl | rfl | rfl | rfl
          · obtain rfl : ii = 0 := hii
            have hA : Aside (x = (tot f 3 0 : Int) ∧ pl = (placeOf l 0 : Int) ∧ (∀ j, j < 0 → j < 3 → (f j).2 ≤ 255) ∧ (3 < 0 → ¬ 256 ^ (4 - 3) ≤ (f 3).2) ∧ Keeps w1 wr) := hA
            have V0 : Aside (laidOf f 3 = res) := V0
            have c0 := (hA.out.2.2.2.2.cell (p := ⟨tb, 0, none⟩) (lt_of_cell (RR.out.2 0 (by decide)))).trans (RR.out.2 0 (by decide))
            have C := HNum.out 0 (by decide)
            obtain ⟨t, ht⟩ : ∃ t, Hid (l.getD 0 ⟨#[]⟩ = t) := ⟨_, rfl⟩
            have hts : (t.size : Int) ≤ 1000 := by have := HS.out 0; rw [ht.out] at this; omega
            rw [ht.out] at c0 C
            obtain ⟨mi, hmi⟩ : ∃ mi, Hid (((min (f 0).2 1099511627776 : Nat) : Int) = mi) := ⟨_, rfl⟩
            rw [hmi.out] at C
            have u0 : 0 ≤ mi := by have := hmi.out; omega
            have u1 : mi ≤ 1099511627776 := by have := hmi.out; omega
            have u2 : 0 ≤ x := by have := hA.out.1; omega
            have u3 : x ≤ 4294967295 := by
              have h1 := hA.out.1
              have h2 := hA.out.2.2.1
              skip
              simp [tot] at h1
              omega
            have u4 : pl ≤ 5005 := by have := hA.out.2.1; have := HPl.out 0; omega
            have u5 : 0 ≤ pl := by have := hA.out.2.1; omega
            by_cases hbig : 255 < (f 0).2
            · have u6 : 255 < mi := by have := hmi.out; omega
              have V : Aside (res = .bad 16 (placeOf l 0) ∧ pl = (placeOf l 0 : Int)) := ⟨by
                have := laid_first (k := 3) (i := 0) (by decide) (fun x hx => hA.out.2.2.1 x hx (by omega)) hbig
                rw [← V0.out, ← (HP2.out 0).1]
                exact this, hA.out.2.1⟩
              have KK : Aside (Keeps w1 wr) := hA.out.2.2.2.2
              clear hbig hA hmi d0 z0 d1 z1 d2 z2 d3 z3
              go_wp2_with fail
              refine (C _).mono ?_; rintro e w2 ⟨rfl, hb2⟩
              have KQ : Aside (Keeps w1 w2) := KK.out.step hb2
              obtain ⟨⟨d0, z0⟩, ⟨d1, z1⟩, ⟨d2, z2⟩, ⟨d3, z3⟩, -, -⟩ := RR.out.1.below KQ.out
              clear KK hb2
              go_wp2_with fail
              rw [V.out.1]
              exact bodyPost_ret (v := .tuple #[.agg #[.int .u8 0, .int .u8 0, .int .u8 0, .int .u8 0], .int .i64 16, .int .i64 (placeOf l 0)]) (by simp [results, Tryz.results7, go_sem, d0, d1, d2, d3, V.out.2]) rfl
                (ret_bad rfl (RR.out.1.below KQ.out))
            · have u6 : mi ≤ 255 := by have := hmi.out; omega
              have N : Aside (x + mi * 16777216 = (tot f 3 1 : Int) ∧ pl + ((t.size : Int) + 1) = (placeOf l 1 : Int) ∧ (∀ j, j < 1 → j < 3 → (f j).2 ≤ 255) ∧ (3 < 1 → ¬ 256 ^ (4 - 3) ≤ (f 3).2) ∧ Keeps w1 wr) := by
                have h1 := hA.out.1
                have h3 := hmi.out
                refine ⟨?_, ?_, ?_, ?_, hA.out.2.2.2.2⟩
                · show _ = ((tot f 3 0 + (if 0 < 3 then (f 0).2 * 256 ^ (3 - 0) else (f 0).2) : Nat) : Int)
                  rw [if_pos (by decide)]
                  omega
                · rw [(HP2.out 0).2, ht.out]; have := hA.out.2.1; omega
                · intro j hj hj2
                  rcases (show j < 0 ∨ j = 0 by omega) with h | rfl
                  · exact hA.out.2.2.1 j h hj2
                  · omega
                · intro hk
                  exact absurd hk (by decide)
              clear hbig hA hmi d0 z0 d1 z1 d2 z2 d3 z3
              go_wp2_with fail
              refine (C _).mono ?_; rintro e w2 ⟨rfl, hb2⟩
              have N2 : Aside (Keeps w1 w2) := N.out.2.2.2.2.step hb2
              have c9 := (hb2.cell (p := ⟨tb, 0, none⟩) (lt_of_cell c0)).trans c0
              clear hb2
              go_wp2_with fail
              refine (P3 _).mono ?_; rintro e w9 ⟨rfl, rfl⟩
              go_wp2_with fail
              go_roundg 3
              case measure => omega
              case rel => exact ⟨1, _, _, _, rfl, rfl, rfl, rfl, rfl, N.out.1, N.out.2.1, N.out.2.2.1, N.out.2.2.2.1, N2.out⟩
          · obtain rfl : ii = 1 := hii
            have hA : Aside (x = (tot f 3 1 : Int) ∧ pl = (placeOf l 1 : Int) ∧ (∀ j, j < 1 → j < 3 → (f j).2 ≤ 255) ∧ (3 < 1 → ¬ 256 ^ (4 - 3) ≤ (f 3).2) ∧ Keeps w1 wr) := hA
            have V0 : Aside (laidOf f 3 = res) := V0
            have c0 := (hA.out.2.2.2.2.cell (p := ⟨tb, 1, none⟩) (lt_of_cell (RR.out.2 1 (by decide)))).trans (RR.out.2 1 (by decide))
            have C := HNum.out 1 (by decide)
            obtain ⟨t, ht⟩ : ∃ t, Hid (l.getD 1 ⟨#[]⟩ = t) := ⟨_, rfl⟩
            have hts : (t.size : Int) ≤ 1000 := by have := HS.out 1; rw [ht.out] at this; omega
            rw [ht.out] at c0 C
            obtain ⟨mi, hmi⟩ : ∃ mi, Hid (((min (f 1).2 1099511627776 : Nat) : Int) = mi) := ⟨_, rfl⟩
            rw [hmi.out] at C
            have u0 : 0 ≤ mi := by have := hmi.out; omega
            have u1 : mi ≤ 1099511627776 := by have := hmi.out; omega
            have u2 : 0 ≤ x := by have := hA.out.1; omega
            have u3 : x ≤ 4294967295 := by
              have h1 := hA.out.1
              have h2 := hA.out.2.2.1
              have q0 := h2 0 (by decide) (by decide)
              simp [tot] at h1
              omega
            have u4 : pl ≤ 5005 := by have := hA.out.2.1; have := HPl.out 1; omega
            have u5 : 0 ≤ pl := by have := hA.out.2.1; omega
            by_cases hbig : 255 < (f 1).2
            · have u6 : 255 < mi := by have := hmi.out; omega
              have V : Aside (res = .bad 16 (placeOf l 1) ∧ pl = (placeOf l 1 : Int)) := ⟨by
                have := laid_first (k := 3) (i := 1) (by decide) (fun x hx => hA.out.2.2.1 x hx (by omega)) hbig
                rw [← V0.out, ← (HP2.out 1).1]
                exact this, hA.out.2.1⟩
              have KK : Aside (Keeps w1 wr) := hA.out.2.2.2.2
              clear hbig hA hmi d0 z0 d1 z1 d2 z2 d3 z3
              go_wp2_with fail
              refine (C _).mono ?_; rintro e w2 ⟨rfl, hb2⟩
              have KQ : Aside (Keeps w1 w2) := KK.out.step hb2
              obtain ⟨⟨d0, z0⟩, ⟨d1, z1⟩, ⟨d2, z2⟩, ⟨d3, z3⟩, -, -⟩ := RR.out.1.below KQ.out
              clear KK hb2
              go_wp2_with fail
              rw [V.out.1]
              exact bodyPost_ret (v := .tuple #[.agg #[.int .u8 0, .int .u8 0, .int .u8 0, .int .u8 0], .int .i64 16, .int .i64 (placeOf l 1)]) (by simp [results, Tryz.results7, go_sem, d0, d1, d2, d3, V.out.2]) rfl
                (ret_bad rfl (RR.out.1.below KQ.out))
            · have u6 : mi ≤ 255 := by have := hmi.out; omega
              have N : Aside (x + mi * 65536 = (tot f 3 2 : Int) ∧ pl + ((t.size : Int) + 1) = (placeOf l 2 : Int) ∧ (∀ j, j < 2 → j < 3 → (f j).2 ≤ 255) ∧ (3 < 2 → ¬ 256 ^ (4 - 3) ≤ (f 3).2) ∧ Keeps w1 wr) := by
                have h1 := hA.out.1
                have h3 := hmi.out
                refine ⟨?_, ?_, ?_, ?_, hA.out.2.2.2.2⟩
                · show _ = ((tot f 3 1 + (if 1 < 3 then (f 1).2 * 256 ^ (3 - 1) else (f 1).2) : Nat) : Int)
                  rw [if_pos (by decide)]
                  omega
                · rw [(HP2.out 1).2, ht.out]; have := hA.out.2.1; omega
                · intro j hj hj2
                  rcases (show j < 1 ∨ j = 1 by omega) with h | rfl
                  · exact hA.out.2.2.1 j h hj2
                  · omega
                · intro hk
                  exact absurd hk (by decide)
              clear hbig hA hmi d0 z0 d1 z1 d2 z2 d3 z3
              go_wp2_with fail
              refine (C _).mono ?_; rintro e w2 ⟨rfl, hb2⟩
              have N2 : Aside (Keeps w1 w2) := N.out.2.2.2.2.step hb2
              have c9 := (hb2.cell (p := ⟨tb, 1, none⟩) (lt_of_cell c0)).trans c0
              clear hb2
              go_wp2_with fail
              refine (P2 _).mono ?_; rintro e w9 ⟨rfl, rfl⟩
              go_wp2_with fail
              go_roundg 2
              case measure => omega
              case rel => exact ⟨2, _, _, _, rfl, rfl, rfl, rfl, rfl, N.out.1, N.out.2.1, N.out.2.2.1, N.out.2.2.2.1, N2.out⟩
          · obtain rfl : ii = 2 := hii
            have hA : Aside (x = (tot f 3 2 : Int) ∧ pl = (placeOf l 2 : Int) ∧ (∀ j, j < 2 → j < 3 → (f j).2 ≤ 255) ∧ (3 < 2 → ¬ 256 ^ (4 - 3) ≤ (f 3).2) ∧ Keeps w1 wr) := hA
            have V0 : Aside (laidOf f 3 = res) := V0
            have c0 := (hA.out.2.2.2.2.cell (p := ⟨tb, 2, none⟩) (lt_of_cell (RR.out.2 2 (by decide)))).trans (RR.out.2 2 (by decide))
            have C := HNum.out 2 (by decide)
            obtain ⟨t, ht⟩ : ∃ t, Hid (l.getD 2 ⟨#[]⟩ = t) := ⟨_, rfl⟩
            have hts : (t.size : Int) ≤ 1000 := by have := HS.out 2; rw [ht.out] at this; omega
            rw [ht.out] at c0 C
            obtain ⟨mi, hmi⟩ : ∃ mi, Hid (((min (f 2).2 1099511627776 : Nat) : Int) = mi) := ⟨_, rfl⟩
            rw [hmi.out] at C
            have u0 : 0 ≤ mi := by have := hmi.out; omega
            have u1 : mi ≤ 1099511627776 := by have := hmi.out; omega
            have u2 : 0 ≤ x := by have := hA.out.1; omega
            have u3 : x ≤ 4294967295 := by
              have h1 := hA.out.1
              have h2 := hA.out.2.2.1
              have q0 := h2 0 (by decide) (by decide); have q1 := h2 1 (by decide) (by decide)
              simp [tot] at h1
              omega
            have u4 : pl ≤ 5005 := by have := hA.out.2.1; have := HPl.out 2; omega
            have u5 : 0 ≤ pl := by have := hA.out.2.1; omega
            by_cases hbig : 255 < (f 2).2
            · have u6 : 255 < mi := by have := hmi.out; omega
              have V : Aside (res = .bad 16 (placeOf l 2) ∧ pl = (placeOf l 2 : Int)) := ⟨by
                have := laid_first (k := 3) (i := 2) (by decide) (fun x hx => hA.out.2.2.1 x hx (by omega)) hbig
                rw [← V0.out, ← (HP2.out 2).1]
                exact this, hA.out.2.1⟩
              have KK : Aside (Keeps w1 wr) := hA.out.2.2.2.2
              clear hbig hA hmi d0 z0 d1 z1 d2 z2 d3 z3
              go_wp2_with fail
              refine (C _).mono ?_; rintro e w2 ⟨rfl, hb2⟩
              have KQ : Aside (Keeps w1 w2) := KK.out.step hb2
              obtain ⟨⟨d0, z0⟩, ⟨d1, z1⟩, ⟨d2, z2⟩, ⟨d3, z3⟩, -, -⟩ := RR.out.1.below KQ.out
              clear KK hb2
              go_wp2_with fail
              rw [V.out.1]
              exact bodyPost_ret (v := .tuple #[.agg #[.int .u8 0, .int .u8 0, .int .u8 0, .int .u8 0], .int .i64 16, .int .i64 (placeOf l 2)]) (by simp [results, Tryz.results7, go_sem, d0, d1, d2, d3, V.out.2]) rfl
                (ret_bad rfl (RR.out.1.below KQ.out))
            · have u6 : mi ≤ 255 := by have := hmi.out; omega
              have N : Aside (x + mi * 256 = (tot f 3 3 : Int) ∧ pl + ((t.size : Int) + 1) = (placeOf l 3 : Int) ∧ (∀ j, j < 3 → j < 3 → (f j).2 ≤ 255) ∧ (3 < 3 → ¬ 256 ^ (4 - 3) ≤ (f 3).2) ∧ Keeps w1 wr) := by
                have h1 := hA.out.1
                have h3 := hmi.out
                refine ⟨?_, ?_, ?_, ?_, hA.out.2.2.2.2⟩
                · show _ = ((tot f 3 2 + (if 2 < 3 then (f 2).2 * 256 ^ (3 - 2) else (f 2).2) : Nat) : Int)
                  rw [if_pos (by decide)]
                  omega
                · rw [(HP2.out 2).2, ht.out]; have := hA.out.2.1; omega
                · intro j hj hj2
                  rcases (show j < 2 ∨ j = 2 by omega) with h | rfl
                  · exact hA.out.2.2.1 j h hj2
                  · omega
                · intro hk
                  exact absurd hk (by decide)
              clear hbig hA hmi d0 z0 d1 z1 d2 z2 d3 z3
              go_wp2_with fail
              refine (C _).mono ?_; rintro e w2 ⟨rfl, hb2⟩
              have N2 : Aside (Keeps w1 w2) := N.out.2.2.2.2.step hb2
              have c9 := (hb2.cell (p := ⟨tb, 2, none⟩) (lt_of_cell c0)).trans c0
              clear hb2
              go_wp2_with fail
              refine (P1 _).mono ?_; rintro e w9 ⟨rfl, rfl⟩
              go_wp2_with fail
              go_roundg 1
              case measure => omega
              case rel => exact ⟨3, _, _, _, rfl, rfl, rfl, rfl, rfl, N.out.1, N.out.2.1, N.out.2.2.1, N.out.2.2.2.1, N2.out⟩
          · obtain rfl : ii = 3 := hii
            have hA : Aside (x = (tot f 3 3 : Int) ∧ pl = (placeOf l 3 : Int) ∧ (∀ j, j < 3 → j < 3 → (f j).2 ≤ 255) ∧ (3 < 3 → ¬ 256 ^ (4 - 3) ≤ (f 3).2) ∧ Keeps w1 wr) := hA
            have V0 : Aside (laidOf f 3 = res) := V0
            have c0 := (hA.out.2.2.2.2.cell (p := ⟨tb, 3, none⟩) (lt_of_cell (RR.out.2 3 (by decide)))).trans (RR.out.2 3 (by decide))
            have C := HNum.out 3 (by decide)
            obtain ⟨t, ht⟩ : ∃ t, Hid (l.getD 3 ⟨#[]⟩ = t) := ⟨_, rfl⟩
            have hts : (t.size : Int) ≤ 1000 := by have := HS.out 3; rw [ht.out] at this; omega
            rw [ht.out] at c0 C
            obtain ⟨mi, hmi⟩ : ∃ mi, Hid (((min (f 3).2 1099511627776 : Nat) : Int) = mi) := ⟨_, rfl⟩
            rw [hmi.out] at C
            have u0 : 0 ≤ mi := by have := hmi.out; omega
            have u1 : mi ≤ 1099511627776 := by have := hmi.out; omega
            have u2 : 0 ≤ x := by have := hA.out.1; omega
            have u3 : x ≤ 4294967295 := by
              have h1 := hA.out.1
              have h2 := hA.out.2.2.1
              have q0 := h2 0 (by decide) (by decide); have q1 := h2 1 (by decide) (by decide); have q2 := h2 2 (by decide) (by decide)
              simp [tot] at h1
              omega
            have u4 : pl ≤ 5005 := by have := hA.out.2.1; have := HPl.out 3; omega
            have u5 : 0 ≤ pl := by have := hA.out.2.1; omega
            by_cases hbig : 256 ≤ (f 3).2
            · have u6 : 256 ≤ mi := by have := hmi.out; omega
              have V : Aside (res = .bad 16 (placeOf l 3) ∧ pl = (placeOf l 3 : Int)) := ⟨by
                have := laid_last (k := 3) (fun x hx => hA.out.2.2.1 x hx hx) (by simpa using hbig)
                rw [← V0.out, ← (HP2.out 3).1]
                exact this, hA.out.2.1⟩
              have KK : Aside (Keeps w1 wr) := hA.out.2.2.2.2
              clear hbig hA hmi d0 z0 d1 z1 d2 z2 d3 z3
              go_wp2_with fail
              refine (C _).mono ?_; rintro e w2 ⟨rfl, hb2⟩
              have KQ : Aside (Keeps w1 w2) := KK.out.step hb2
              obtain ⟨⟨d0, z0⟩, ⟨d1, z1⟩, ⟨d2, z2⟩, ⟨d3, z3⟩, -, -⟩ := RR.out.1.below KQ.out
              clear KK hb2
              go_wp2_with fail
              refine (PL _).mono ?_; rintro e w9 ⟨rfl, rfl⟩
              go_wp2_with fail
              rw [V.out.1]
              exact bodyPost_ret (v := .tuple #[.agg #[.int .u8 0, .int .u8 0, .int .u8 0, .int .u8 0], .int .i64 16, .int .i64 (placeOf l 3)]) (by simp [results, Tryz.results7, go_sem, d0, d1, d2, d3, V.out.2]) rfl
                (ret_bad rfl (RR.out.1.below KQ.out))
            · have u6 : mi < 256 := by have := hmi.out; omega
              have N : Aside (x + mi = (tot f 3 4 : Int) ∧ pl + ((t.size : Int) + 1) = (placeOf l 4 : Int) ∧ (∀ j, j < 4 → j < 3 → (f j).2 ≤ 255) ∧ (3 < 4 → ¬ 256 ^ (4 - 3) ≤ (f 3).2) ∧ Keeps w1 wr) := by
                have h1 := hA.out.1
                have h3 := hmi.out
                refine ⟨?_, ?_, ?_, ?_, hA.out.2.2.2.2⟩
                · show _ = ((tot f 3 3 + (if 3 < 3 then (f 3).2 * 256 ^ (3 - 3) else (f 3).2) : Nat) : Int)
                  rw [if_neg (by decide)]
                  omega
                · rw [(HP2.out 3).2, ht.out]; have := hA.out.2.1; omega
                · intro j hj hj2
                  rcases (show j < 3 ∨ j = 3 by omega) with h | rfl
                  · exact hA.out.2.2.1 j h hj2
                  · exact absurd hj2 (by decide)
                · intro hk
                  simpa using hbig
              clear hbig hA hmi d0 z0 d1 z1 d2 z2 d3 z3
              go_wp2_with fail
              refine (C _).mono ?_; rintro e w2 ⟨rfl, hb2⟩
              have N2 : Aside (Keeps w1 w2) := N.out.2.2.2.2.step hb2
              have c9 := (hb2.cell (p := ⟨tb, 3, none⟩) (lt_of_cell c0)).trans c0
              clear hb2
              go_wp2_with fail
              refine (PL _).mono ?_; rintro e w9 ⟨rfl, rfl⟩
              go_wp2_with fail
              go_roundg 0
              case measure => omega
              case rel => exact ⟨4, _, _, _, rfl, rfl, rfl, rfl, rfl, N.out.1, N.out.2.1, N.out.2.2.1, N.out.2.2.2.1, N2.out⟩
    | succ g =>
      have hin : i < n := by omega
      have y0 : (i : Int) < (n : Int) := by omega
      have y1 : (0 : Int) ≤ (i : Int) := by omega
      have c0 := RR.out.2 i hin
      obtain ⟨t, ht⟩ : ∃ t, Hid (l.getD i ⟨#[]⟩ = t) := ⟨_, rfl⟩
      obtain ⟨pl, hpl⟩ : ∃ pl, Hid (placeOf l i = pl) := ⟨_, rfl⟩
      have hts : t.size ≤ 1000 := by have := HS.out i; rw [ht.out] at this; exact this
      have hps : (pl : Int) ≤ 4004 := by have := HPl.out i; rw [hpl.out] at this; omega
      rw [ht.out] at c0
      rw [hpl.out]
      obtain ⟨⟨d0, z0⟩, ⟨d1, z1⟩, ⟨d2, z2⟩, ⟨d3, z3⟩, -, -⟩ := RR.out.1
      by_cases h0 : t.size = 0
      · have y2 : ((t.size : Int) == 0) = true := beq_iff_eq.2 (by omega)
        have V : Aside (res = .bad 10 pl) := by
          have := hA.out.1
          rw [bad_hit (by rw [ht.out]; exact read_short_of h0), hpl.out] at this
          exact this.symm
        obtain rfl := empty_of t h0
        clear h0 y2
        go_wp2_with fail
        rw [V.out]
        exact bodyPost_ret (v := .tuple #[.agg #[.int .u8 0, .int .u8 0, .int .u8 0, .int .u8 0], .int .i64 10, .int .i64 pl]) (by simp [results, Tryz.results7, go_sem, d0, d1, d2, d3]) rfl
          (ret_bad rfl RR.out.1)
      have y2 : ((t.size : Int) == 0) = false := beq_eq_false_iff_ne.2 (by omega)
      have B := fun w => rbase_any t (by omega) w
      obtain ⟨sk, hsk⟩ : ∃ sk, Hid (skipOf t = sk) := ⟨_, rfl⟩
      have hskl : sk ≤ t.size := by rw [← hsk.out]; exact skip_le t
      have al : Hid (alien t = alienFrom (baseOf t) t sk) := by have := alien_from t; rw [hsk.out] at this; exact this
      rw [hsk.out] at B
      have h0 := Lib.hid h0
      rcases (show baseOf t = 8 ∨ baseOf t = 10 ∨ baseOf t = 16 from base_is t) with hb | hb | hb
      · rw [hb] at B al
        have B : ∀ w, Calls Tryz.prog 22 #[.string t] w fun e w' => e = .returned (.tuple #[.int .u64 8, .int .i64 sk]) ∧ w = w' := B
        have H : ∀ c w, Calls Tryz.prog 23 #[.string ⟨#[48, 49, 50, 51, 52, 53, 54, 55]⟩, .int .u8 (c : UInt8).toNat] w fun e w' => e = .returned (.bool ((digs 8).contains c)) ∧ w = w' := fun c w => rhas_any ⟨#[48, 49, 50, 51, 52, 53, 54, 55]⟩ c (by decide) w
        have hb := Lib.hid hb
        go_wp2_with fail
        refine (B _).mono ?_; rintro e w2 ⟨rfl, rfl⟩
        go_wp2_with fail
        go_loopg [13] (t.size - sk) (fun g2 v wq => ∃ k : Nat, v = .int .i64 k ∧ g2 + k = t.size ∧ sk ≤ k ∧ Hid (alien t = alienFrom 8 t k) ∧ w1 = wq)
        case atStart => exact ⟨sk, rfl, by omega, Nat.le_refl _, al, rfl⟩
        case round =>
          clear al B
          obtain ⟨k, rfl, hg2, hsk2, hk, rfl⟩ := hrel
          by_cases hlt : k < t.size
          · obtain ⟨g2, rfl⟩ : ∃ g2, gk = g2 + 1 := ⟨gk - 1, by omega⟩
            have u0 : (k : Int) < (t.size : Int) := by omega
            have u1 : (0 : Int) ≤ (k : Int) := by omega
            have C := H (t.get! k) w1
            obtain ⟨q, hq⟩ : ∃ q, Hid ((digs 8).contains (t.get! k) = q) := ⟨_, rfl⟩
            rw [hq.out] at C
            rw [qread.get_at t k hlt] at C
            cases q with
            | false =>
              have V : Aside (res = .bad 11 (pl + k)) := by
                have q2 := alienFrom_hit hlt hq.out
                rw [← hk.out] at q2
                have := hA.out.1
                rw [bad_hit (by rw [ht.out]; exact read_form_of h0.out hlt q2.1 q2.2), hpl.out] at this
                exact this.symm
              clear hk hq H
              go_wp2_with fail
              refine C.mono ?_; rintro e w2 ⟨rfl, rfl⟩
              go_wp2_with fail
              rw [V.out]
              exact bodyPost_ret (v := .tuple #[.agg #[.int .u8 0, .int .u8 0, .int .u8 0, .int .u8 0], .int .i64 11, .int .i64 ((pl + k : Nat) : Int)]) (by simp [results, Tryz.results7, go_sem, d0, d1, d2, d3]) rfl
                (ret_bad rfl RR.out.1)
            | true =>
              have N : Hid (alien t = alienFrom 8 t (k + 1)) := hk.out.trans (alienFrom_on hlt hq.out)
              clear hk hq H
              go_wp2_with fail
              refine C.mono ?_; rintro e w2 ⟨rfl, rfl⟩
              go_wp2_with fail
              go_roundg g2
              case measure => omega
              case rel => exact ⟨k + 1, rfl, by omega, by omega, N, rfl⟩
          · have u0 : ¬ (k : Int) < (t.size : Int) := by omega
            have N : Aside (outOf l (badFrom l g (i + 1)) = res ∧ ∀ j, j < i + 1 → (l.getD j ⟨#[]⟩).size ≠ 0 ∧ alien (l.getD j ⟨#[]⟩) = []) := by
              have a0 : alien t = [] := hk.out.trans (alienFrom_end (by omega))
              refine ⟨?_, fun j hj => ?_⟩
              · have := hA.out.1
                rwa [bad_on (by rw [ht.out]; exact read_right_of h0.out a0)] at this
              · rcases (show j < i ∨ j = i by omega) with hj | rfl
                · exact hA.out.2 j hj
                · rw [ht.out]; exact ⟨h0.out, a0⟩
            have hpl2 : Aside (((placeOf l (i + 1) : Nat) : Int) = (pl : Int) + ((t.size : Int) + 1)) := by
              show ((placeOf l i + (l.getD i ⟨#[]⟩).size + 1 : Nat) : Int) = _
              rw [hpl.out, ht.out]; omega
            have hts2 : (t.size : Int) ≤ 1000 := by omega
            clear hk H
            go_wp2_with fail
            go_roundg g
            case measure => omega
            case rel => exact ⟨i + 1, by rw [hpl2.out], rfl, by omega, N.out, rfl⟩
      · rw [hb] at B al
        have B : ∀ w, Calls Tryz.prog 22 #[.string t] w fun e w' => e = .returned (.tuple #[.int .u64 10, .int .i64 sk]) ∧ w = w' := B
        have H : ∀ c w, Calls Tryz.prog 23 #[.string ⟨#[48, 49, 50, 51, 52, 53, 54, 55, 56, 57]⟩, .int .u8 (c : UInt8).toNat] w fun e w' => e = .returned (.bool ((digs 10).contains c)) ∧ w = w' := fun c w => rhas_any ⟨#[48, 49, 50, 51, 52, 53, 54, 55, 56, 57]⟩ c (by decide) w
        have hb := Lib.hid hb
        go_wp2_with fail
        refine (B _).mono ?_; rintro e w2 ⟨rfl, rfl⟩
        go_wp2_with fail
        go_loopg [13] (t.size - sk) (fun g2 v wq => ∃ k : Nat, v = .int .i64 k ∧ g2 + k = t.size ∧ sk ≤ k ∧ Hid (alien t = alienFrom 10 t k) ∧ w1 = wq)
        case atStart => exact ⟨sk, rfl, by omega, Nat.le_refl _, al, rfl⟩
        case round =>
          clear al B
          obtain ⟨k, rfl, hg2, hsk2, hk, rfl⟩ := hrel
          by_cases hlt : k < t.size
          · obtain ⟨g2, rfl⟩ : ∃ g2, gk = g2 + 1 := ⟨gk - 1, by omega⟩
            have u0 : (k : Int) < (t.size : Int) := by omega
            have u1 : (0 : Int) ≤ (k : Int) := by omega
            have C := H (t.get! k) w1
            obtain ⟨q, hq⟩ : ∃ q, Hid ((digs 10).contains (t.get! k) = q) := ⟨_, rfl⟩
            rw [hq.out] at C
            rw [qread.get_at t k hlt] at C
            cases q with
            | false =>
              have V : Aside (res = .bad 11 (pl + k)) := by
                have q2 := alienFrom_hit hlt hq.out
                rw [← hk.out] at q2
                have := hA.out.1
                rw [bad_hit (by rw [ht.out]; exact read_form_of h0.out hlt q2.1 q2.2), hpl.out] at this
                exact this.symm
              clear hk hq H
              go_wp2_with fail
              refine C.mono ?_; rintro e w2 ⟨rfl, rfl⟩
              go_wp2_with fail
              rw [V.out]
              exact bodyPost_ret (v := .tuple #[.agg #[.int .u8 0, .int .u8 0, .int .u8 0, .int .u8 0], .int .i64 11, .int .i64 ((pl + k : Nat) : Int)]) (by simp [results, Tryz.results7, go_sem, d0, d1, d2, d3]) rfl
                (ret_bad rfl RR.out.1)
            | true =>
              have N : Hid (alien t = alienFrom 10 t (k + 1)) := hk.out.trans (alienFrom_on hlt hq.out)
              clear hk hq H
              go_wp2_with fail
              refine C.mono ?_; rintro e w2 ⟨rfl, rfl⟩
              go_wp2_with fail
              go_roundg g2
              case measure => omega
              case rel => exact ⟨k + 1, rfl, by omega, by omega, N, rfl⟩
          · have u0 : ¬ (k : Int) < (t.size : Int) := by omega
            have N : Aside (outOf l (badFrom l g (i + 1)) = res ∧ ∀ j, j < i + 1 → (l.getD j ⟨#[]⟩).size ≠ 0 ∧ alien (l.getD j ⟨#[]⟩) = []) := by
              have a0 : alien t = [] := hk.out.trans (alienFrom_end (by omega))
              refine ⟨?_, fun j hj => ?_⟩
              · have := hA.out.1
                rwa [bad_on (by rw [ht.out]; exact read_right_of h0.out a0)] at this
              · rcases (show j < i ∨ j = i by omega) with hj | rfl
                · exact hA.out.2 j hj
                · rw [ht.out]; exact ⟨h0.out, a0⟩
            have hpl2 : Aside (((placeOf l (i + 1) : Nat) : Int) = (pl : Int) + ((t.size : Int) + 1)) := by
              show ((placeOf l i + (l.getD i ⟨#[]⟩).size + 1 : Nat) : Int) = _
              rw [hpl.out, ht.out]; omega
            have hts2 : (t.size : Int) ≤ 1000 := by omega
            clear hk H
            go_wp2_with fail
            go_roundg g
            case measure => omega
            case rel => exact ⟨i + 1, by rw [hpl2.out], rfl, by omega, N.out, rfl⟩
      · rw [hb] at B al
        have B : ∀ w, Calls Tryz.prog 22 #[.string t] w fun e w' => e = .returned (.tuple #[.int .u64 16, .int .i64 sk]) ∧ w = w' := B
        have H : ∀ c w, Calls Tryz.prog 23 #[.string ⟨#[48, 49, 50, 51, 52, 53, 54, 55, 56, 57, 97, 98, 99, 100, 101, 102, 65, 66, 67, 68, 69, 70]⟩, .int .u8 (c : UInt8).toNat] w fun e w' => e = .returned (.bool ((digs 16).contains c)) ∧ w = w' := fun c w => rhas_any ⟨#[48, 49, 50, 51, 52, 53, 54, 55, 56, 57, 97, 98, 99, 100, 101, 102, 65, 66, 67, 68, 69, 70]⟩ c (by decide) w
        have hb := Lib.hid hb
        go_wp2_with fail
        refine (B _).mono ?_; rintro e w2 ⟨rfl, rfl⟩
        go_wp2_with fail
        go_loopg [13] (t.size - sk) (fun g2 v wq => ∃ k : Nat, v = .int .i64 k ∧ g2 + k = t.size ∧ sk ≤ k ∧ Hid (alien t = alienFrom 16 t k) ∧ w1 = wq)
        case atStart => exact ⟨sk, rfl, by omega, Nat.le_refl _, al, rfl⟩
        case round =>
          clear al B
          obtain ⟨k, rfl, hg2, hsk2, hk, rfl⟩ := hrel
          by_cases hlt : k < t.size
          · obtain ⟨g2, rfl⟩ : ∃ g2, gk = g2 + 1 := ⟨gk - 1, by omega⟩
            have u0 : (k : Int) < (t.size : Int) := by omega
            have u1 : (0 : Int) ≤ (k : Int) := by omega
            have C := H (t.get! k) w1
            obtain ⟨q, hq⟩ : ∃ q, Hid ((digs 16).contains (t.get! k) = q) := ⟨_, rfl⟩
            rw [hq.out] at C
            rw [qread.get_at t k hlt] at C
            cases q with
            | false =>
              have V : Aside (res = .bad 11 (pl + k)) := by
                have q2 := alienFrom_hit hlt hq.out
                rw [← hk.out] at q2
                have := hA.out.1
                rw [bad_hit (by rw [ht.out]; exact read_form_of h0.out hlt q2.1 q2.2), hpl.out] at this
                exact this.symm
              clear hk hq H
              go_wp2_with fail
              refine C.mono ?_; rintro e w2 ⟨rfl, rfl⟩
              go_wp2_with fail
              rw [V.out]
              exact bodyPost_ret (v := .tuple #[.agg #[.int .u8 0, .int .u8 0, .int .u8 0, .int .u8 0], .int .i64 11, .int .i64 ((pl + k : Nat) : Int)]) (by simp [results, Tryz.results7, go_sem, d0, d1, d2, d3]) rfl
                (ret_bad rfl RR.out.1)
            | true =>
              have N : Hid (alien t = alienFrom 16 t (k + 1)) := hk.out.trans (alienFrom_on hlt hq.out)
              clear hk hq H
              go_wp2_with fail
              refine C.mono ?_; rintro e w2 ⟨rfl, rfl⟩
              go_wp2_with fail
              go_roundg g2
              case measure => omega
              case rel => exact ⟨k + 1, rfl, by omega, by omega, N, rfl⟩
          · have u0 : ¬ (k : Int) < (t.size : Int) := by omega
            have N : Aside (outOf l (badFrom l g (i + 1)) = res ∧ ∀ j, j < i + 1 → (l.getD j ⟨#[]⟩).size ≠ 0 ∧ alien (l.getD j ⟨#[]⟩) = []) := by
              have a0 : alien t = [] := hk.out.trans (alienFrom_end (by omega))
              refine ⟨?_, fun j hj => ?_⟩
              · have := hA.out.1
                rwa [bad_on (by rw [ht.out]; exact read_right_of h0.out a0)] at this
              · rcases (show j < i ∨ j = i by omega) with hj | rfl
                · exact hA.out.2 j hj
                · rw [ht.out]; exact ⟨h0.out, a0⟩
            have hpl2 : Aside (((placeOf l (i + 1) : Nat) : Int) = (pl : Int) + ((t.size : Int) + 1)) := by
              show ((placeOf l i + (l.getD i ⟨#[]⟩).size + 1 : Nat) : Int) = _
              rw [hpl.out, ht.out]; omega
            have hts2 : (t.size : Int) ≤ 1000 := by omega
            clear hk H
            go_wp2_with fail
            go_roundg g
            case measure => omega
            case rel => exact ⟨i + 1, by rw [hpl2.out], rfl, by omega, N.out, rfl⟩

theorem rparse_any (s : ByteArray) (w : World) (hs : s.size ≤ 1000) : Calls Tryz.prog 7 #[.string s] w fun e w' => RAddrOut (parseOf s) w e w' := by
  unfold parseOf
  cases h : cut (unended s) with
  | many a => exact rparse_many s a w hs h
  | parts l => exact rparse_parts s l w hs h
end Go.Proofs.YtahlkhaehlemcaaGreatDoor.rq
