/- quad.Parse: the address of a text, or what is wrong with it, and where. -/
import Derived.Test.YtahlkhaehlemcaaGreatDoorQdLaid
import Derived.Test.YtahlkhaehlemcaaGreatDoorQdRead
import Derived.Deep.RegionHeld3
set_option linter.unusedSimpArgs false
set_option linter.unusedVariables false
namespace Go.Proofs.YtahlkhaehlemcaaGreatDoor.qparse
open Go.RowKit Go.Proofs.YtahlkhaehlemcaaGreatDoor.errs Go.Proofs.YtahlkhaehlemcaaGreatDoor.qfields Go.Proofs.YtahlkhaehlemcaaGreatDoor.qread Go.Proofs.YtahlkhaehlemcaaGreatDoor.qlaid

/-- Where a part begins. -/
def placeOf (l : List ByteArray) : Nat → Nat
  | 0 => 0
  | j + 1 => placeOf l j + (l.getD j ⟨#[]⟩).size + 1
def numOf (t : ByteArray) : Nat := match readPart t with | .num n => n | .bad _ _ => 0
def partsOf (l : List ByteArray) (j : Nat) : Nat × Nat := (placeOf l j, numOf (l.getD j ⟨#[]⟩))
/-- The first part that can't be read. -/
def badFrom (l : List ByteArray) : Nat → Nat → Option (Nat × Nat)
  | 0, _ => none
  | g + 1, j => match readPart (l.getD j ⟨#[]⟩) with | .bad k a => some (k, placeOf l j + a) | .num _ => badFrom l g (j + 1)
def outOf (l : List ByteArray) (o : Option (Nat × Nat)) : Out := match o with | some (k, a) => .bad k a | none => laidOf (partsOf l) (l.length - 1)
def parseOf (s : ByteArray) : Out :=
  match cut (unended s) with
  | .many a => .bad 15 a
  | .parts l => outOf l (badFrom l l.length 0)

theorem bad_hit {l : List ByteArray} {g j k a : Nat} (h : readPart (l.getD j ⟨#[]⟩) = .bad k a) : badFrom l (g + 1) j = some (k, placeOf l j + a) := by simp only [badFrom, h]
theorem bad_on {l : List ByteArray} {g j n : Nat} (h : readPart (l.getD j ⟨#[]⟩) = .num n) : badFrom l (g + 1) j = badFrom l g (j + 1) := by simp only [badFrom, h]
theorem numOf_num {t : ByteArray} {n : Nat} (h : readPart t = .num n) : numOf t = n := by simp only [numOf, h]
theorem numOf_lt (t : ByteArray) : numOf t < 18446744073709551616 := by
  unfold numOf readPart
  split
  · rename_i n h
    split at h
    · cases h
    · split at h
      · simp only [Got.num.injEq] at h
        rw [← h]
        cases hn : qmath.num (baseOf t) 0 (restOf t).data.toList with
        | none => simp [qmath.numAt]
        | some m => simp [qmath.numAt]; exact qmath.num_lt _ _ 0 m (by decide) hn
      · cases h
  · decide

theorem cut_facts (s : ByteArray) : ∀ (g i f : Nat) (acc l : List ByteArray), acc.length ≤ 3 → (∀ t ∈ acc, t.size ≤ s.size) → cutFrom s g i f acc = .parts l → 1 ≤ l.length ∧ l.length ≤ 4 ∧ ∀ t ∈ l, t.size ≤ s.size
  | 0, i, f, acc, l, h3, ha, e => by
    rw [cut_end] at e
    obtain rfl : acc ++ [s.extract f s.size] = l := by simpa using e
    refine ⟨by simp, by simp; omega, fun t ht => ?_⟩
    rcases List.mem_append.1 ht with ht | ht
    · exact ha t ht
    · obtain rfl := List.mem_singleton.1 ht
      rw [ByteArray.size_extract]; omega
  | g + 1, i, f, acc, l, h3, ha, e => by
    by_cases h : s.get! i = 46
    · by_cases h4 : 4 ≤ acc.length + 1
      · rw [cut_many h h4] at e; cases e
      · rw [cut_part h h4] at e
        refine cut_facts s g (i + 1) (i + 1) _ l (by simp; omega) (fun t ht => ?_) e
        rcases List.mem_append.1 ht with ht | ht
        · exact ha t ht
        · obtain rfl := List.mem_singleton.1 ht
          rw [ByteArray.size_extract]; omega
    · rw [cut_on h] at e
      exact cut_facts s g (i + 1) f acc l h3 ha e
theorem unended_size (s : ByteArray) : (unended s).size ≤ s.size := by
  unfold unended
  split
  · show (Lib.trimSuffix s.data.toList [46]).toArray.size ≤ _
    unfold Lib.trimSuffix
    have := Lib.size_eq s
    split <;> simp <;> omega
  · exact Nat.le_refl _
theorem getD_size {l : List ByteArray} {n : Nat} (h : ∀ t ∈ l, t.size ≤ n) (j : Nat) : (l.getD j ⟨#[]⟩).size ≤ n := by
  rcases Nat.lt_or_ge j l.length with hj | hj
  · rw [List.getD_eq_getElem?_getD, List.getElem?_eq_getElem hj]
    exact h _ (List.getElem_mem hj)
  · rw [List.getD_eq_getElem?_getD, List.getElem?_eq_none hj]
    exact Nat.zero_le _
theorem placeOf_le {l : List ByteArray} {n : Nat} (h : ∀ t ∈ l, t.size ≤ n) : ∀ j, placeOf l j ≤ j * (n + 1)
  | 0 => Nat.zero_le _
  | j + 1 => by
    have h1 := placeOf_le h j
    have h2 := getD_size h j
    show placeOf l j + (l.getD j ⟨#[]⟩).size + 1 ≤ _
    rw [Nat.succ_mul]; omega

/-- What Fields answers, written out. -/
theorem cut_many_out {a : Nat} {w : World} (e : Ending) (w' : World) (h : CutOut (.many a) w e w') :
    ∃ bb, e = .returned (.tuple #[.slice none 0 0, .iface 56 (.pointer (some ⟨bb, 0, none⟩))]) ∧ Aside (w.heap.size ≤ bb ∧ FaultAt w' (.iface 56 (.pointer (some ⟨bb, 0, none⟩))) 15 a .nilIface ∧ Below w.heap.size w w') := h
theorem cut_parts_out {l : List ByteArray} {w : World} (hl : 1 ≤ l.length) (e : Ending) (w' : World) (h : CutOut (.parts l) w e w') :
    ∃ g cap, e = .returned (.tuple #[.slice (some ⟨g, 0, none⟩) l.length cap, .nilIface]) ∧ Aside ((∀ j, j < l.length → w'.cell? ⟨g, j, none⟩ = some (.string (l.getD j ⟨#[]⟩))) ∧ Below w.heap.size w w') := by
  obtain ⟨v, rfl, ho, hb⟩ := h
  obtain ⟨a, cap, rfl, hc⟩ := own_row ho
  obtain ⟨g, rfl, hcc⟩ := hc hl
  refine ⟨g, cap, rfl, fun j hj => ?_, hb⟩
  rw [hcc j hj]
  simp [strs, List.getElem?_map, List.getD_eq_getElem?_getD, List.getElem?_eq_getElem hj]

/-- The result's box. -/
def Res (w W : World) : Prop := Cel W w.heap.size 0 (.int .u8 0) ∧ Cel W w.heap.size 1 (.int .u8 0) ∧ Cel W w.heap.size 2 (.int .u8 0) ∧ Cel W w.heap.size 3 (.int .u8 0) ∧ Below w.heap.size w W ∧ w.heap.size < W.heap.size
theorem res_new (w : World) : Res w (w.alloc (.cells #[.int .u8 0, .int .u8 0, .int .u8 0, .int .u8 0] 24)) :=
  ⟨cel_new _ _ _ _ _ rfl, cel_new _ _ _ _ _ rfl, cel_new _ _ _ _ _ rfl, cel_new _ _ _ _ _ rfl, keeps_new _ _, by simp⟩
theorem Res.below {w W W' : World} (h : Res w W) (hb : Keeps W W') : Res w W' := by
  obtain ⟨h1, h2, h3, h4, h5, h6⟩ := h
  exact ⟨h1.below hb, h2.below hb, h3.below hb, h4.below hb, h5.trans (hb.out.mono h5.size), Nat.lt_of_lt_of_le h6 hb.out.size⟩

set_option maxRecDepth 100000 in
set_option maxHeartbeats 4000000 in
theorem parse_many (s : ByteArray) (a : Nat) (w : World) (hs : s.size ≤ 1000) (h : cut (unended s) = .many a) :
    Calls Tryz.prog 6 #[.string s] w fun e w' => Fell w e w' (15 : Int) (a : Int) noAddr := by
  have U := fun w => unended_any s (by omega) w
  have F := fun w => fields_any (unended s) w (Nat.le_trans (unended_size s) hs)
  rw [h] at F
  replace F := fun w => (F w).mono cut_many_out
  obtain ⟨W, hW⟩ : ∃ W, W = w.alloc (.cells #[.int .u8 0, .int .u8 0, .int .u8 0, .int .u8 0] 24) := ⟨_, rfl⟩
  have R : Aside (Res w W) := by rw [hW]; exact res_new w
  replace hW := Lib.hid hW
  generalize unended s = u at *
  clear h
  go_enter Tryz.func6, Tryz.ntmps6
  go_wp2_with fail
  rw [← hW.out]
  go_region_held3 (fun _ => True) (trivial) (first | (go_at_call 17; refine (U _).mono ?_; rintro e w' ⟨rfl, rfl⟩) | (go_at_call 16; refine (F _).mono ?_; rintro e w1 ⟨bb, rfl, hF⟩))
  all_goals
    have hF : Aside (W.heap.size ≤ bb ∧ FaultAt w1 (.iface 56 (.pointer (some ⟨bb, 0, none⟩))) 15 a .nilIface ∧ Keeps W w1) := ⟨hF.out.1, hF.out.2.1, Keeps.step (Below.drew (Below.refl _ _)) hF.out.2.2⟩
    obtain ⟨d0, z0⟩ := R.out.1.below hF.out.2.2
    obtain ⟨d1, z1⟩ := R.out.2.1.below hF.out.2.2
    obtain ⟨d2, z2⟩ := R.out.2.2.1.below hF.out.2.2
    obtain ⟨d3, z3⟩ := R.out.2.2.2.1.below hF.out.2.2
    have k2 : Aside (Below w.heap.size w w1 ∧ w.heap.size < bb) := ⟨(R.out.below hF.out.2.2).2.2.2.2.1, Nat.lt_of_lt_of_le R.out.2.2.2.2.2 hF.out.1⟩
    go_wp2_with fail
    exact bodyPost_ret (v := noAddr (.iface 56 (.pointer (some ⟨bb, 0, none⟩)))) (by simp [results, Tryz.results6, go_sem, d0, d1, d2, d3, noAddr]) rfl
      ⟨bb, rfl, by have := k2.out.2; omega, inBox_fault hF.out.2.1 (Nat.ne_of_lt k2.out.2), inBox_below k2.out.1 (Nat.le_refl _)⟩

/-- The parts' block, when so many are read. -/
def Tab (w : World) (pb : Nat) (l : List ByteArray) (i : Nat) : Prop := ∀ j, j < 4 → Cel w pb (j * 2) (.int .i64 (if j < i then placeOf l j else 0 : Nat)) ∧ Cel w pb (j * 2 + 1) (.int .u64 (if j < i then numOf (l.getD j ⟨#[]⟩) else 0 : Nat))
theorem Tab.below {w w' : World} {pb i : Nat} {l : List ByteArray} (h : Tab w pb l i) (hb : Keeps w w') : Tab w' pb l i := fun j hj => ⟨(h j hj).1.below hb, (h j hj).2.below hb⟩
theorem tab_new (w : World) (l : List ByteArray) : Tab (w.alloc (.cells #[.int .i64 0, .int .u64 0, .int .i64 0, .int .u64 0, .int .i64 0, .int .u64 0, .int .i64 0, .int .u64 0] 44)) w.heap.size l 0 := by
  intro j hj
  rcases (show j = 0 ∨ j = 1 ∨ j = 2 ∨ j = 3 by omega) with rfl | rfl | rfl | rfl
  all_goals exact ⟨cel_new _ _ _ _ _ rfl, cel_new _ _ _ _ _ rfl⟩
theorem cel_set {w : World} {b o : Nat} {v : Value} (h : Cel w b o v) (x : Value) : Cel (w.setCell ⟨b, o, none⟩ x) b o x :=
  ⟨World.cell?_setCell_same' _ ⟨b, o, none⟩ x (by rw [h.1]; rfl), by rw [World.frozen?_setCell]; exact h.2⟩
theorem cel_far {w : World} {b o : Nat} {v : Value} (h : Cel w b o v) {p : Addr} (hp : p ≠ ⟨b, o, none⟩) (x : Value) : Cel (w.setCell p x) b o v :=
  ⟨(World.cell?_setCell_other _ _ _ _ hp).trans h.1, by rw [World.frozen?_setCell]; exact h.2⟩
theorem off_ne {b x y : Nat} (h : x ≠ y) : (⟨b, x, none⟩ : Addr) ≠ ⟨b, y, none⟩ := fun e => h (congrArg Addr.off e)
theorem adr_ne {b c x y : Nat} (h : b ≠ c) : (⟨b, x, none⟩ : Addr) ≠ ⟨c, y, none⟩ := fun e => h (congrArg Addr.block e)
/-- The i-th part is stored. -/
theorem Tab.store {w : World} {pb i : Nat} {l : List ByteArray} (h : Tab w pb l i) (hi : i < 4) : Tab ((w.setCell ⟨pb, i * 2, none⟩ (.int .i64 (placeOf l i))).setCell ⟨pb, i * 2 + 1, none⟩ (.int .u64 (numOf (l.getD i ⟨#[]⟩)))) pb l (i + 1) := by
  intro j hj
  obtain ⟨h0, h1⟩ := h j hj
  by_cases e : j = i
  · subst e
    rw [if_pos (by omega), if_pos (by omega)]
    exact ⟨cel_far (cel_set h0 _) (by simp) _, cel_set (cel_far h1 (by simp) _) _⟩
  · have go : ∀ x y : Value, Cel w pb (j * 2) x → Cel w pb (j * 2 + 1) y → Cel ((w.setCell ⟨pb, i * 2, none⟩ (.int .i64 (placeOf l i))).setCell ⟨pb, i * 2 + 1, none⟩ (.int .u64 (numOf (l.getD i ⟨#[]⟩)))) pb (j * 2) x ∧ Cel ((w.setCell ⟨pb, i * 2, none⟩ (.int .i64 (placeOf l i))).setCell ⟨pb, i * 2 + 1, none⟩ (.int .u64 (numOf (l.getD i ⟨#[]⟩)))) pb (j * 2 + 1) y := fun x y hx hy =>
      ⟨cel_far (cel_far hx (off_ne (by omega)) _) (off_ne (by omega)) _, cel_far (cel_far hy (off_ne (by omega)) _) (off_ne (by omega)) _⟩
    by_cases hji : j < i
    · rw [if_pos hji] at h0 h1
      rw [if_pos (by omega), if_pos (by omega)]
      exact go _ _ h0 h1
    · rw [if_neg hji] at h0 h1
      rw [if_neg (by omega), if_neg (by omega)]
      exact go _ _ h0 h1
theorem Tab.par {w : World} {pb n : Nat} {l : List ByteArray} (h : Tab w pb l n) (k : Nat) (hk : k < n) (hn : n ≤ 4) : Par w pb k (partsOf l) := fun j hj => by
  obtain ⟨⟨h0, -⟩, ⟨h1, -⟩⟩ := h j (by omega)
  rw [if_pos (by omega)] at h0 h1
  exact ⟨h0, h1⟩

theorem addr_opened {o : Out} {w : World} (e : Ending) (w' : World) (h : AddrOut o w e w') :
    ∃ v0 v1 v2 v3 x, e = .returned (.tuple #[.agg #[.int .u8 v0, .int .u8 v1, .int .u8 v2, .int .u8 v3], x]) ∧ Aside (AddrOut o w (.returned (.tuple #[.agg #[.int .u8 v0, .int .u8 v1, .int .u8 v2, .int .u8 v3], x])) w') ∧ Below w.heap.size w w' := by
  cases o with
  | bad k a =>
    obtain ⟨bb, rfl, h1, h2, h3⟩ := h
    exact ⟨0, 0, 0, 0, _, rfl, ⟨bb, rfl, h1, h2, h3⟩, h3⟩
  | good a b c d =>
    obtain ⟨rfl, h3⟩ := h
    exact ⟨_, _, _, _, _, rfl, ⟨rfl, h3⟩, h3⟩
/-- What was answered is stored in a box of the caller's. -/
theorem addr_stored {o : Out} {w W w' : World} {e : Ending} (h : AddrOut o W e w') (hb : Below w.heap.size w W) {b : Nat} (h1 : w.heap.size ≤ b) (h2 : b < W.heap.size) (v0 v1 v2 v3 : Value) : AddrOut o w e (inBox w' b v0 v1 v2 v3) := by
  cases o with
  | bad k a =>
    obtain ⟨bb, rfl, q1, q2, q3⟩ := h
    exact ⟨bb, rfl, Nat.le_trans hb.size q1, inBox_fault q2 (by omega), inBox_below (hb.trans (q3.mono hb.size)) h1⟩
  | good a b c d =>
    obtain ⟨rfl, q3⟩ := h
    exact ⟨rfl, inBox_below (hb.trans (q3.mono hb.size)) h1⟩

set_option maxRecDepth 100000 in
set_option maxHeartbeats 8000000 in
theorem parse_parts (s : ByteArray) (l : List ByteArray) (w : World) (hs : s.size ≤ 1000) (h : cut (unended s) = .parts l) (hv : RangeVar w) :
    Calls Tryz.prog 6 #[.string s] w fun e w' => AddrOut (outOf l (badFrom l l.length 0)) w e w' := by
  obtain ⟨hl1, hl4, hls⟩ := cut_facts (unended s) _ 0 0 [] l (by simp) (by simp) h
  have U := fun w => unended_any s (by omega) w
  have F := fun w => fields_any (unended s) w (Nat.le_trans (unended_size s) hs)
  have hls : ∀ t ∈ l, t.size ≤ 1000 := fun t ht => Nat.le_trans (hls t ht) (Nat.le_trans (unended_size s) hs)
  rw [h] at F
  replace F := fun w => (F w).mono (cut_parts_out hl1)
  obtain ⟨res, hres⟩ : ∃ res, Hid (outOf l (badFrom l l.length 0) = res) := ⟨_, rfl⟩
  rw [hres.out]
  have HS : Aside (∀ j, (l.getD j ⟨#[]⟩).size ≤ 1000) := getD_size hls
  have HPl : Aside (∀ j, placeOf l j ≤ j * 1001) := placeOf_le hls
  obtain ⟨n, hn⟩ : ∃ n, Hid (l.length = n) := ⟨_, rfl⟩
  rw [hn.out] at hl1 hl4 hres F
  obtain ⟨W, hW⟩ : ∃ W, W = w.alloc (.cells #[.int .u8 0, .int .u8 0, .int .u8 0, .int .u8 0] 24) := ⟨_, rfl⟩
  have R : Aside (Res w W ∧ RangeVar W) := by rw [hW]; exact ⟨res_new w, hv.below (keeps_new _ _) (Nat.le_refl _)⟩
  replace hW := Lib.hid hW
  generalize unended s = u at *
  clear h hls hv
  go_enter Tryz.func6, Tryz.ntmps6
  go_wp2_with fail
  rw [← hW.out]
  go_region_held3 (fun _ => True) (trivial) (first | (go_at_call 17; refine (U _).mono ?_; rintro e w' ⟨rfl, rfl⟩) | (go_at_call 16; refine (F _).mono ?_; rintro e w1 ⟨tb, cap, rfl, hF⟩))
  all_goals
    have kd : Keeps W w1 := Keeps.step (Below.drew (Below.refl _ _)) hF.out.2
    have R1 : Aside (Res w w1 ∧ RangeVar w1 ∧ ∀ j, j < n → w1.cell? ⟨tb, j, none⟩ = some (.string (l.getD j ⟨#[]⟩))) := ⟨R.out.1.below kd, R.out.2.below kd (Nat.le_refl _), hF.out.1⟩
    clear hF kd F U R
    go_wp2_with fail
    have T0 := tab_new w1 l
    have k0 := keeps_new w1 (.cells #[.int .i64 0, .int .u64 0, .int .i64 0, .int .u64 0, .int .i64 0, .int .u64 0, .int .i64 0, .int .u64 0] 44)
    have R2 : Aside (Res w (w1.alloc (.cells #[.int .i64 0, .int .u64 0, .int .i64 0, .int .u64 0, .int .i64 0, .int .u64 0, .int .i64 0, .int .u64 0] 44)) ∧ RangeVar (w1.alloc (.cells #[.int .i64 0, .int .u64 0, .int .i64 0, .int .u64 0, .int .i64 0, .int .u64 0, .int .i64 0, .int .u64 0] 44)) ∧ (∀ j, j < n → (w1.alloc (.cells #[.int .i64 0, .int .u64 0, .int .i64 0, .int .u64 0, .int .i64 0, .int .u64 0, .int .i64 0, .int .u64 0] 44)).cell? ⟨tb, j, none⟩ = some (.string (l.getD j ⟨#[]⟩))) ∧ Tab (w1.alloc (.cells #[.int .i64 0, .int .u64 0, .int .i64 0, .int .u64 0, .int .i64 0, .int .u64 0, .int .i64 0, .int .u64 0] 44)) w1.heap.size l 0 ∧ w.heap.size < w1.heap.size ∧ w1.heap.size < (w1.alloc (.cells #[.int .i64 0, .int .u64 0, .int .i64 0, .int .u64 0, .int .i64 0, .int .u64 0, .int .i64 0, .int .u64 0] 44)).heap.size) :=
      ⟨R1.out.1.below k0, R1.out.2.1.below k0 (Nat.le_refl _), fun j hj => (k0.out.cell (p := ⟨tb, j, none⟩) (lt_of_cell (R1.out.2.2 j hj))).trans (R1.out.2.2 j hj), T0, R1.out.1.2.2.2.2.2, by simp⟩
    have GL : Aside (3 < w1.heap.size) := by obtain ⟨ev, h1, -⟩ := R1.out.2.1; exact lt_of_cell h1
    have TB : Aside (tb < w1.heap.size) := lt_of_cell (R1.out.2.2 0 hl1)
    generalize w1.alloc (.cells #[.int .i64 0, .int .u64 0, .int .i64 0, .int .u64 0, .int .i64 0, .int .u64 0, .int .i64 0, .int .u64 0] 44) = W2 at R2 ⊢
    generalize w1.heap.size = pb at R2 TB GL ⊢
    clear T0 k0 R1
    go_loopg [7, 24] n (fun g v0 v1 wr => ∃ i : Nat, v0 = .int .i64 (placeOf l i) ∧ v1 = .int .i64 i ∧ g + i = n ∧ Aside (outOf l (badFrom l g i) = res ∧ Tab wr pb l i ∧ Res w wr ∧ RangeVar wr ∧ (∀ j, j < n → wr.cell? ⟨tb, j, none⟩ = some (.string (l.getD j ⟨#[]⟩))) ∧ w.heap.size < pb ∧ pb < wr.heap.size))
    case atStart => exact ⟨0, rfl, rfl, by omega, hres.out, R2.out.2.2.2.1, R2.out.1, R2.out.2.1, R2.out.2.2.1, R2.out.2.2.2.2.1, R2.out.2.2.2.2.2⟩
    case round =>
      clear hres R2
      obtain ⟨i, rfl, rfl, hg, hA⟩ := hrel
      cases gk with
      | zero =>
        obtain rfl : n = i := by omega
        have y0 : ¬ ((n : Int) < (n : Int)) := by omega
        obtain ⟨hT, hR, hpb, hsz⟩ : Tab wr pb l n ∧ Res w wr ∧ w.heap.size < pb ∧ pb < wr.heap.size := ⟨hA.out.2.1, hA.out.2.2.1, hA.out.2.2.2.2.2.1, hA.out.2.2.2.2.2.2⟩
        have V : Aside (laidOf (partsOf l) (n - 1) = res) := by
          have := hA.out.1
          have e : outOf l (badFrom l 0 n) = laidOf (partsOf l) (l.length - 1) := rfl
          rw [e, hn.out] at this
          exact this
        have HR : Aside (Res w wr.drew ∧ w.heap.size < wr.drew.heap.size) := ⟨hR.below (Below.drew (Below.refl _ _)), hR.2.2.2.2.2⟩
        have HP : Aside (w.heap.size < pb) := hpb
        have LA := laid_any pb (n - 1) (partsOf l) wr.drew (by omega) (hT.par (n - 1) (by omega) hl4) (numOf_lt _) (fun j _ => numOf_lt _)
        rw [V.out] at LA
        replace LA := LA.mono addr_opened
        obtain ⟨⟨c0, -⟩, ⟨c1, -⟩⟩ := hT (n - 1) (by omega)
        rw [if_pos (by omega)] at c0 c1
        obtain ⟨la, hla⟩ : ∃ la, Hid (placeOf l (n - 1) = la) := ⟨_, rfl⟩
        obtain ⟨ln, hln⟩ : ∃ ln, Hid (numOf (l.getD (n - 1) ⟨#[]⟩) = ln) := ⟨_, rfl⟩
        rw [hla.out] at c0
        rw [hln.out] at c1
        rw [show (partsOf l (n - 1)).1 = la from hla.out, show (partsOf l (n - 1)).2 = ln from hln.out] at LA
        clear hla hln V hT hR hA hn
        rcases (show n = 1 ∨ n = 2 ∨ n = 3 ∨ n = 4 by omega) with rfl | rfl | rfl | rfl
        · have c0 : wr.drew.cell? ⟨pb, 0, none⟩ = some (.int .i64 la) := c0
          have c1 : wr.drew.cell? ⟨pb, 1, none⟩ = some (.int .u64 ln) := c1
          have hne : w.heap.size ≠ pb := Nat.ne_of_lt HP.out
          have LA : Calls Tryz.prog 19 #[.slice (some ⟨pb, 0, none⟩) 0 0, .agg #[.int .i64 la, .int .u64 ln]] wr.drew fun e w' => ∃ v0 v1 v2 v3 x, e = .returned (.tuple #[.agg #[.int .u8 v0, .int .u8 v1, .int .u8 v2, .int .u8 v3], x]) ∧ Aside (AddrOut res wr.drew (.returned (.tuple #[.agg #[.int .u8 v0, .int .u8 v1, .int .u8 v2, .int .u8 v3], x])) w') ∧ Below wr.drew.heap.size wr.drew w' := LA
          go_wp2_with fail
          go_region_held3 (fun w' => w'.cell? ⟨pb, 0, none⟩ = some (.int .i64 la) ∧ w'.cell? ⟨pb, 1, none⟩ = some (.int .u64 ln)) (first | with_reducible exact ⟨c0, c1⟩ | with_reducible exact ⟨e0, e1⟩ | (refine ⟨?_, ?_⟩ <;> (rw [World.cell?_setCell_other _ _ _ _ (adr_ne hne), World.cell?_setCell_other _ _ _ _ (adr_ne hne), World.cell?_setCell_other _ _ _ _ (adr_ne hne), World.cell?_setCell_other _ _ _ _ (adr_ne hne)]; assumption))) ((go_at_call 19; refine LA.mono ?_; rintro e w4 ⟨v0, v1, v2, v3, x, rfl, hO, hb4⟩; have e0 := (hb4.cell (p := ⟨pb, 0, none⟩) (lt_of_cell c0)).trans c0; have e1 := (hb4.cell (p := ⟨pb, 1, none⟩) (lt_of_cell c1)).trans c1; obtain ⟨d0, z0⟩ := HR.out.1.1.below hb4; obtain ⟨d1, z1⟩ := HR.out.1.2.1.below hb4; obtain ⟨d2, z2⟩ := HR.out.1.2.2.1.below hb4; obtain ⟨d3, z3⟩ := HR.out.1.2.2.2.1.below hb4))
          all_goals
            go_wp2_with fail
            exact bodyPost_ret (v := .tuple #[.agg #[.int .u8 v0, .int .u8 v1, .int .u8 v2, .int .u8 v3], x]) (by simp [results, Tryz.results6, go_sem, d0, d1, d2, d3]) rfl
              (addr_stored hO.out HR.out.1.2.2.2.2.1 (Nat.le_refl _) HR.out.2 _ _ _ _)
        · have c0 : wr.drew.cell? ⟨pb, 2, none⟩ = some (.int .i64 la) := c0
          have c1 : wr.drew.cell? ⟨pb, 3, none⟩ = some (.int .u64 ln) := c1
          have hne : w.heap.size ≠ pb := Nat.ne_of_lt HP.out
          have LA : Calls Tryz.prog 19 #[.slice (some ⟨pb, 0, none⟩) 1 1, .agg #[.int .i64 la, .int .u64 ln]] wr.drew fun e w' => ∃ v0 v1 v2 v3 x, e = .returned (.tuple #[.agg #[.int .u8 v0, .int .u8 v1, .int .u8 v2, .int .u8 v3], x]) ∧ Aside (AddrOut res wr.drew (.returned (.tuple #[.agg #[.int .u8 v0, .int .u8 v1, .int .u8 v2, .int .u8 v3], x])) w') ∧ Below wr.drew.heap.size wr.drew w' := LA
          go_wp2_with fail
          go_region_held3 (fun w' => w'.cell? ⟨pb, 2, none⟩ = some (.int .i64 la) ∧ w'.cell? ⟨pb, 3, none⟩ = some (.int .u64 ln)) (first | with_reducible exact ⟨c0, c1⟩ | with_reducible exact ⟨e0, e1⟩ | (refine ⟨?_, ?_⟩ <;> (rw [World.cell?_setCell_other _ _ _ _ (adr_ne hne), World.cell?_setCell_other _ _ _ _ (adr_ne hne), World.cell?_setCell_other _ _ _ _ (adr_ne hne), World.cell?_setCell_other _ _ _ _ (adr_ne hne)]; assumption))) ((go_at_call 19; refine LA.mono ?_; rintro e w4 ⟨v0, v1, v2, v3, x, rfl, hO, hb4⟩; have e0 := (hb4.cell (p := ⟨pb, 2, none⟩) (lt_of_cell c0)).trans c0; have e1 := (hb4.cell (p := ⟨pb, 3, none⟩) (lt_of_cell c1)).trans c1; obtain ⟨d0, z0⟩ := HR.out.1.1.below hb4; obtain ⟨d1, z1⟩ := HR.out.1.2.1.below hb4; obtain ⟨d2, z2⟩ := HR.out.1.2.2.1.below hb4; obtain ⟨d3, z3⟩ := HR.out.1.2.2.2.1.below hb4))
          all_goals
            go_wp2_with fail
            exact bodyPost_ret (v := .tuple #[.agg #[.int .u8 v0, .int .u8 v1, .int .u8 v2, .int .u8 v3], x]) (by simp [results, Tryz.results6, go_sem, d0, d1, d2, d3]) rfl
              (addr_stored hO.out HR.out.1.2.2.2.2.1 (Nat.le_refl _) HR.out.2 _ _ _ _)
        · have c0 : wr.drew.cell? ⟨pb, 4, none⟩ = some (.int .i64 la) := c0
          have c1 : wr.drew.cell? ⟨pb, 5, none⟩ = some (.int .u64 ln) := c1
          have hne : w.heap.size ≠ pb := Nat.ne_of_lt HP.out
          have LA : Calls Tryz.prog 19 #[.slice (some ⟨pb, 0, none⟩) 2 2, .agg #[.int .i64 la, .int .u64 ln]] wr.drew fun e w' => ∃ v0 v1 v2 v3 x, e = .returned (.tuple #[.agg #[.int .u8 v0, .int .u8 v1, .int .u8 v2, .int .u8 v3], x]) ∧ Aside (AddrOut res wr.drew (.returned (.tuple #[.agg #[.int .u8 v0, .int .u8 v1, .int .u8 v2, .int .u8 v3], x])) w') ∧ Below wr.drew.heap.size wr.drew w' := LA
          go_wp2_with fail
          go_region_held3 (fun w' => w'.cell? ⟨pb, 4, none⟩ = some (.int .i64 la) ∧ w'.cell? ⟨pb, 5, none⟩ = some (.int .u64 ln)) (first | with_reducible exact ⟨c0, c1⟩ | with_reducible exact ⟨e0, e1⟩ | (refine ⟨?_, ?_⟩ <;> (rw [World.cell?_setCell_other _ _ _ _ (adr_ne hne), World.cell?_setCell_other _ _ _ _ (adr_ne hne), World.cell?_setCell_other _ _ _ _ (adr_ne hne), World.cell?_setCell_other _ _ _ _ (adr_ne hne)]; assumption))) ((go_at_call 19; refine LA.mono ?_; rintro e w4 ⟨v0, v1, v2, v3, x, rfl, hO, hb4⟩; have e0 := (hb4.cell (p := ⟨pb, 4, none⟩) (lt_of_cell c0)).trans c0; have e1 := (hb4.cell (p := ⟨pb, 5, none⟩) (lt_of_cell c1)).trans c1; obtain ⟨d0, z0⟩ := HR.out.1.1.below hb4; obtain ⟨d1, z1⟩ := HR.out.1.2.1.below hb4; obtain ⟨d2, z2⟩ := HR.out.1.2.2.1.below hb4; obtain ⟨d3, z3⟩ := HR.out.1.2.2.2.1.below hb4))
          all_goals
            go_wp2_with fail
            exact bodyPost_ret (v := .tuple #[.agg #[.int .u8 v0, .int .u8 v1, .int .u8 v2, .int .u8 v3], x]) (by simp [results, Tryz.results6, go_sem, d0, d1, d2, d3]) rfl
              (addr_stored hO.out HR.out.1.2.2.2.2.1 (Nat.le_refl _) HR.out.2 _ _ _ _)
        · have c0 : wr.drew.cell? ⟨pb, 6, none⟩ = some (.int .i64 la) := c0
          have c1 : wr.drew.cell? ⟨pb, 7, none⟩ = some (.int .u64 ln) := c1
          have hne : w.heap.size ≠ pb := Nat.ne_of_lt HP.out
          have LA : Calls Tryz.prog 19 #[.slice (some ⟨pb, 0, none⟩) 3 3, .agg #[.int .i64 la, .int .u64 ln]] wr.drew fun e w' => ∃ v0 v1 v2 v3 x, e = .returned (.tuple #[.agg #[.int .u8 v0, .int .u8 v1, .int .u8 v2, .int .u8 v3], x]) ∧ Aside (AddrOut res wr.drew (.returned (.tuple #[.agg #[.int .u8 v0, .int .u8 v1, .int .u8 v2, .int .u8 v3], x])) w') ∧ Below wr.drew.heap.size wr.drew w' := LA
          go_wp2_with fail
          go_region_held3 (fun w' => w'.cell? ⟨pb, 6, none⟩ = some (.int .i64 la) ∧ w'.cell? ⟨pb, 7, none⟩ = some (.int .u64 ln)) (first | with_reducible exact ⟨c0, c1⟩ | with_reducible exact ⟨e0, e1⟩ | (refine ⟨?_, ?_⟩ <;> (rw [World.cell?_setCell_other _ _ _ _ (adr_ne hne), World.cell?_setCell_other _ _ _ _ (adr_ne hne), World.cell?_setCell_other _ _ _ _ (adr_ne hne), World.cell?_setCell_other _ _ _ _ (adr_ne hne)]; assumption))) ((go_at_call 19; refine LA.mono ?_; rintro e w4 ⟨v0, v1, v2, v3, x, rfl, hO, hb4⟩; have e0 := (hb4.cell (p := ⟨pb, 6, none⟩) (lt_of_cell c0)).trans c0; have e1 := (hb4.cell (p := ⟨pb, 7, none⟩) (lt_of_cell c1)).trans c1; obtain ⟨d0, z0⟩ := HR.out.1.1.below hb4; obtain ⟨d1, z1⟩ := HR.out.1.2.1.below hb4; obtain ⟨d2, z2⟩ := HR.out.1.2.2.1.below hb4; obtain ⟨d3, z3⟩ := HR.out.1.2.2.2.1.below hb4))
          all_goals
            go_wp2_with fail
            exact bodyPost_ret (v := .tuple #[.agg #[.int .u8 v0, .int .u8 v1, .int .u8 v2, .int .u8 v3], x]) (by simp [results, Tryz.results6, go_sem, d0, d1, d2, d3]) rfl
              (addr_stored hO.out HR.out.1.2.2.2.2.1 (Nat.le_refl _) HR.out.2 _ _ _ _)
      | succ g =>
        have hin : i < n := by omega
        have y0 : (i : Int) < (n : Int) := by omega
        have y1 : (0 : Int) ≤ (i : Int) := by omega
        have y2 : (i : Int) < 4 := by omega
        have c0 := hA.out.2.2.2.2.1 i hin
        have RD := fun W hv => read_any (l.getD i ⟨#[]⟩) (placeOf l i) (HS.out i) (by have := HPl.out i; omega) W hv
        obtain ⟨⟨q0, z0⟩, ⟨q1, z1⟩⟩ := hA.out.2.1 i (by omega)
        rw [if_neg (by omega)] at q0 q1
        obtain ⟨t, ht⟩ : ∃ t, Hid (l.getD i ⟨#[]⟩ = t) := ⟨_, rfl⟩
        obtain ⟨pl, hpl⟩ : ∃ pl, Hid (placeOf l i = pl) := ⟨_, rfl⟩
        have hts : (t.size : Int) ≤ 1000 := by have := HS.out i; rw [ht.out] at this; omega
        have hps : (pl : Int) ≤ 4004 := by have := HPl.out i; rw [hpl.out] at this; omega
        rw [ht.out] at c0
        rw [hpl.out, ht.out] at RD
        rw [hpl.out]
        cases hg : readPart t with
        | bad k a =>
          rw [hg] at RD
          have RD : ∀ W, RangeVar W → Calls Tryz.prog 18 #[.string t, .int .i64 pl] W fun e w' => Fell W e w' (k : Int) ((pl + a : Nat) : Int) noPart := RD
          have V : Aside (res = .bad k (pl + a)) := by
            have := hA.out.1
            rw [bad_hit (by rw [ht.out]; exact hg), hpl.out] at this
            exact this.symm
          have C := (RD wr hA.out.2.2.2.1).mono Fell.opened
          have hpb : Aside (w.heap.size < pb ∧ pb < wr.heap.size) := hA.out.2.2.2.2.2
          have HR : Aside (Res w wr) := hA.out.2.2.1
          clear hg RD
          unfold noPart at C
          go_wp2_with fail
          refine C.mono ?_; rintro e w3 ⟨bb, rfl, hF⟩
          obtain ⟨d0, z4⟩ := HR.out.1.below hF.out.2.2
          obtain ⟨d1, z5⟩ := HR.out.2.1.below hF.out.2.2
          obtain ⟨d2, z6⟩ := HR.out.2.2.1.below hF.out.2.2
          obtain ⟨d3, z7⟩ := HR.out.2.2.2.1.below hF.out.2.2
          have q2 := (hF.out.2.2.cell (p := ⟨pb, i * 2, none⟩) hpb.out.2).trans q0
          have q3 := (hF.out.2.2.cell (p := ⟨pb, i * 2 + 1, none⟩) hpb.out.2).trans q1
          have z8 := (hF.out.2.2.frozen (p := ⟨pb, i * 2, none⟩) hpb.out.2).trans z0
          have z9 := (hF.out.2.2.frozen (p := ⟨pb, i * 2 + 1, none⟩) hpb.out.2).trans z1
          clear q0 q1 z0 z1
          have hrb : w.heap.size ≠ pb := Nat.ne_of_lt hpb.out.1
          have hrp : pb ≠ w.heap.size := hrb.symm
          go_wp2_with fail
          rw [V.out]
          have hlt : w.heap.size < bb ∧ pb < bb := ⟨by have := hpb.out; have := hF.out.1; omega, by have := hpb.out; have := hF.out.1; omega⟩
          have hnp : pb ≠ bb := Nat.ne_of_lt hlt.2
          have f1 := (hF.out.2.1.away (p := ⟨pb, i * 2, none⟩) hnp (.int .i64 0)).away (p := ⟨pb, i * 2 + 1, none⟩) hnp (.int .u64 0)
          have b1 := ((HR.out.2.2.2.2.1.trans (hF.out.2.2.mono HR.out.2.2.2.2.1.size)).setCell (p := ⟨pb, i * 2, none⟩) (Nat.le_of_lt hpb.out.1) (.int .i64 0)).setCell (p := ⟨pb, i * 2 + 1, none⟩) (Nat.le_of_lt hpb.out.1) (.int .u64 0)
          exact bodyPost_ret (v := noAddr (.iface 56 (.pointer (some ⟨bb, 0, none⟩)))) (by simp [results, Tryz.results6, go_sem, d0, d1, d2, d3, noAddr, hrb, hrp]) rfl
            ⟨bb, rfl, Nat.le_of_lt hlt.1, inBox_fault f1 (Nat.ne_of_lt hlt.1), inBox_below b1 (Nat.le_refl _)⟩
        | num m =>
          rw [hg] at RD
          have RD : ∀ W, RangeVar W → Calls Tryz.prog 18 #[.string t, .int .i64 pl] W fun e w' => e = .returned (.tuple #[.agg #[.int .i64 pl, .int .u64 m], .nilIface]) ∧ Below W.heap.size W w' := RD
          have V : Aside (outOf l (badFrom l g (i + 1)) = res) := by
            have := hA.out.1
            rw [bad_on (n := m) (by rw [ht.out]; exact hg)] at this
            exact this
          have hm : Aside (numOf (l.getD i ⟨#[]⟩) = m) := by rw [ht.out]; exact numOf_num hg
          have C := RD wr hA.out.2.2.2.1
          clear hg RD
          go_wp2_with fail
          refine C.mono ?_; rintro e w3 ⟨rfl, hb3⟩
          have k3 : Keeps wr w3 := hb3
          have Q : Aside (Tab w3 pb l i ∧ Res w w3 ∧ RangeVar w3 ∧ (∀ j, j < n → w3.cell? ⟨tb, j, none⟩ = some (.string (l.getD j ⟨#[]⟩))) ∧ w.heap.size < pb ∧ pb < w3.heap.size) :=
            ⟨hA.out.2.1.below k3, hA.out.2.2.1.below k3, hA.out.2.2.2.1.below k3 (Nat.le_refl _), fun j hj => (k3.out.cell (p := ⟨tb, j, none⟩) (lt_of_cell (hA.out.2.2.2.2.1 j hj))).trans (hA.out.2.2.2.2.1 j hj), hA.out.2.2.2.2.2.1, Nat.lt_of_lt_of_le hA.out.2.2.2.2.2.2 k3.out.size⟩
          clear q0 z0 q1 z1 k3 hb3
          obtain ⟨⟨q0, z0⟩, ⟨q1, z1⟩⟩ := Q.out.1 i (by omega)
          rw [if_neg (by omega)] at q0 q1
          go_wp2_with fail
          go_roundg g
          case measure => omega
          case rel =>
            have hpl2 : ((placeOf l (i + 1) : Nat) : Int) = (pl : Int) + ((t.size : Int) + 1) := by
              show ((placeOf l i + (l.getD i ⟨#[]⟩).size + 1 : Nat) : Int) = _
              rw [hpl.out, ht.out]; omega
            have hst := Q.out.1.store (by omega : i < 4)
            rw [hpl.out, hm.out] at hst
            have key : ∀ {b o : Nat} {v : Value}, b ≠ pb → Cel w3 b o v → Cel ((w3.setCell ⟨pb, i * 2, none⟩ (.int .i64 pl)).setCell ⟨pb, i * 2 + 1, none⟩ (.int .u64 m)) b o v := fun hb hc => cel_far (cel_far hc (adr_ne hb.symm) _) (adr_ne hb.symm) _
            have hrb : w.heap.size ≠ pb := Nat.ne_of_lt Q.out.2.2.2.2.1
            obtain ⟨r0, r1, r2, r3, r4, r5⟩ := Q.out.2.1
            refine ⟨i + 1, by rw [hpl2], rfl, by omega, V.out, hst, ⟨key hrb r0, key hrb r1, key hrb r2, key hrb r3, (r4.setCell (p := ⟨pb, _, none⟩) (Nat.le_of_lt Q.out.2.2.2.2.1) _).setCell (p := ⟨pb, _, none⟩) (Nat.le_of_lt Q.out.2.2.2.2.1) _, by simp [World.setCell]; exact r5⟩, ?_, ?_, Q.out.2.2.2.2.1, by simp [World.setCell]; exact Q.out.2.2.2.2.2⟩
            · obtain ⟨ev, h1, h2⟩ := Q.out.2.2.1
              refine ⟨ev, ?_, h2⟩
              have hg : 3 ≠ pb := Nat.ne_of_lt GL.out
              rw [World.cell?_setCell_other _ _ _ _ (adr_ne hg.symm), World.cell?_setCell_other _ _ _ _ (adr_ne hg.symm)]
              exact h1
            · intro j hj
              have ht : tb ≠ pb := Nat.ne_of_lt TB.out
              rw [World.cell?_setCell_other _ _ _ _ (adr_ne ht.symm), World.cell?_setCell_other _ _ _ _ (adr_ne ht.symm)]
              exact Q.out.2.2.2.1 j hj

theorem parse_any (s : ByteArray) (w : World) (hs : s.size ≤ 1000) (hv : RangeVar w) :
    Calls Tryz.prog 6 #[.string s] w fun e w' => AddrOut (parseOf s) w e w' := by
  unfold parseOf
  cases h : cut (unended s) with
  | many a => exact parse_many s a w hs h
  | parts l => exact parse_parts s l w hs h hv
end Go.Proofs.YtahlkhaehlemcaaGreatDoor.qparse
