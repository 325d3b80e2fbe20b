/- The document's classes and the program's spans hold the same characters. -/
import Derived.Test.YtoilalffhmjhdaaGreatDoorSmAmong
import Derived.Test.YtoilalffhmjhdaaGreatDoorSmValues
import Derived.Test.YtoilalffhmjhdaaGreatDoorSmCheck
import Derived.Test.YtoilalffhmjhdaaGreatDoorJoinMath
set_option linter.unusedSimpArgs false
set_option linter.unusedVariables false
namespace Go.Proofs.YtoilalffhmjhdaaGreatDoor.subst
open Go.RowKit Go.Proofs.YtoilalffhmjhdaaGreatDoor.errs Go.Proofs.YtoilalffhmjhdaaGreatDoor.rows Go.Proofs.YtoilalffhmjhdaaGreatDoor.utf Go.Proofs.YtoilalffhmjhdaaGreatDoor.gmath Go.Proofs.YtoilalffhmjhdaaGreatDoor.glref

def spL (fold : Bool) (k : Nat) : List UInt8 := (clAt k).spans.map fun b => if fold && decide (65 ≤ b ∧ b ≤ 90) then b + 32 else b
theorem cls_low : ∀ (fold : Bool) (k : Fin 8) (n : Fin 128), inCls fold (rcAt k.val) (n.val : Int) = inSpans (spL fold k.val) (fo fold (n.val : Int)) := by decide +kernel
theorem spL_is : ∀ (fold : Bool) (k : Nat), k < 8 → (spansOf fold (clAt k)).data.toList = spL fold k
  | fold, 0, _ | fold, 1, _ | fold, 2, _ | fold, 3, _ | fold, 4, _ | fold, 5, _ | fold, 6, _ | fold, 7, _ => by cases fold <;> kernel_rfl
  | _, n + 8, h => by omega
theorem spans_high : ∀ (l : List UInt8) (c : Int), (∀ b ∈ l, b.toNat < 128) → 128 ≤ c → inSpans l c = false
  | [], _, _, _ => rfl
  | [_], _, _, _ => rfl
  | a :: b :: r, c, h, hc => by
    have hb := h b (by simp)
    show (_ || inSpans r c) = false
    rw [spans_high r c (fun x hx => h x (by simp [hx])) hc, decide_eq_false (show ¬ c ≤ (b.toNat : Int) by omega), Bool.and_false]
    rfl
theorem spL_small : ∀ (fold : Bool) (k : Fin 8), ∀ b ∈ spL fold k.val, b.toNat < 128 := by decide +kernel
theorem fo_high (fold : Bool) (c : Int) (h : 128 ≤ c) : fo fold c = c := by unfold fo small; cases fold <;> simp <;> omega
/-- A class is its spans. -/
theorem cls_same (fold : Bool) (k : Nat) (hk : k < 8) (c : Int) (h0 : 0 ≤ c) : inCls fold (rcAt k) c = inSpans (spansOf fold (clAt k)).data.toList (fo fold c) := by
  rw [spL_is fold k hk]
  by_cases h : c < 128
  · have := cls_low fold ⟨k, hk⟩ ⟨c.toNat, by omega⟩
    rw [show ((⟨c.toNat, by omega⟩ : Fin 128).val : Int) = c by show ((c.toNat : Nat) : Int) = c; omega] at this
    exact this
  · rw [fo_high fold c (by omega), spans_high _ c (spL_small fold ⟨k, hk⟩) (by omega)]
    unfold inCls
    rw [if_pos (by omega)]
end Go.Proofs.YtoilalffhmjhdaaGreatDoor.subst
/- The document's own rest: from which places does what is behind a place of the pattern stand for the text's rest? (The row as a function, and what the walk asks; the walk is not written yet.) -/
set_option linter.unusedSimpArgs false
set_option linter.unusedVariables false
namespace Go.Proofs.YtoilalffhmjhdaaGreatDoor.subst
open Go.RowKit Go.Proofs.YtoilalffhmjhdaaGreatDoor.errs Go.Proofs.YtoilalffhmjhdaaGreatDoor.rows Go.Proofs.YtoilalffhmjhdaaGreatDoor.utf Go.Proofs.YtoilalffhmjhdaaGreatDoor.umath Go.Proofs.YtoilalffhmjhdaaGreatDoor.text Go.Proofs.YtoilalffhmjhdaaGreatDoor.ref Go.Proofs.YtoilalffhmjhdaaGreatDoor.glref Go.Proofs.YtoilalffhmjhdaaGreatDoor.gmath Go.Proofs.YtoilalffhmjhdaaGreatDoor.chars

/-- What a variable stands for, ahead of what is behind it. -/
def varR (fold : Bool) (vs : List Vr) (X : List Int) (nm : List UInt8) (B : Nat → Bool) : Nat → Bool :=
  match rcIdx nm with
  | some k => fun a => decide (a + (rcSize (some k)).toNat ≤ X.length) && (B (a + (rcSize (some k)).toNat) && amongB fold X a (rcSize (some k)).toNat (rcAt k))
  | none => valF fold ((findVr vs (T nm)).getD noVr).vals X B
/-- The row of a pattern's rest. -/
def docR (fold : Bool) (vs : List Vr) (X : List Int) (s : ByteArray) (E : Nat → Bool) : Nat → Nat → Nat → Bool
  | 0, _ => fun _ => false
  | g + 1, a => if nextI s.data.toList a < s.data.toList.length then
      valF fold [s.extract a (nextI s.data.toList a)] X (varR fold vs X (nameAt s.data.toList (nextI s.data.toList a)) (docR fold vs X s E g (nextJ s.data.toList (nextI s.data.toList a) + 1)))
    else valF fold [s.extract a s.size] X E
theorem one_in (W : World) (x : ByteArray) : StrsIn (W.alloc (.cells #[.string x] 9)) (.slice (some ⟨W.heap.size, 0, none⟩) 1 1) [x] :=
  ⟨_, 1, rfl, Nat.le_refl _, by decide, fun _ => ⟨W.heap.size, 0, rfl, fun j hj => by
    obtain rfl : j = 0 := by have : j < 1 := hj; omega
    exact cell_of_heap (heap_alloc_new W _) rfl⟩⟩
/-- What a call of rest answers. -/
def RestOut (n : Nat) (F : Nat → Bool) (w : World) (e : Ending) (w' : World) : Prop := ∃ b, e = .returned (.slice (some ⟨b, 0, none⟩) n n) ∧ Hid (Row w' b n F ∧ Below w.heap.size w w')
theorem slice_to (s : ByteArray) (a b : Nat) (h : a ≤ b) (hb : b ≤ s.size) : ∀ w, (Instr.slice 9 (.string s) (some (.int .i64 (a : Int))) (some (.int .i64 (b : Int))) none).run Tryz.prog w = .ok (.string (s.extract a b)) w := fun w => by
  rw [run_slice_string_if (h := Tryz.underlying9), if_pos (by omega), if_pos (by omega), Int.toNat_natCast, Int.toNat_natCast]
theorem slice_from (s : ByteArray) (a : Nat) (h : a ≤ s.size) : ∀ w, (Instr.slice 9 (.string s) (some (.int .i64 (a : Int))) none none).run Tryz.prog w = .ok (.string (s.extract a s.size)) w := fun w => by
  rw [run_slice_string_from_if (h := Tryz.underlying9), if_pos (by omega), Int.toNat_natCast]
/-- What the walk asks of the heap. -/
structure RIn (w : World) (vv cv : Value) (eb : Nat) (vs : List Vr) (X : List Int) (E : Nat → Bool) : Prop where
  vars : VarsIn w vv vs
  chars : NumsF w cv X
  ends : Row w eb (X.length + 1) E
theorem RIn.below {w w' : World} {vv cv : Value} {eb : Nat} {vs : List Vr} {X : List Int} {E : Nat → Bool} (h : RIn w vv cv eb vs X E) (hb : Keeps w w') : RIn w' vv cv eb vs X E := ⟨h.vars.below hb, h.chars.below hb, h.ends.below hb⟩

set_option maxRecDepth 100000 in
set_option maxHeartbeats 1000000 in
theorem rest_end (fold : Bool) (s : ByteArray) (vs : List Vr) (X : List Int) (E : Nat → Bool) (vv cv : Value) (eb a : Nat) (w : World) (hs : s.size ≤ 1000000) (hX : X.length ≤ 1000) (hr : ∀ j, j < X.length → right (X.getD j 0) = true) (ha : a ≤ s.size) (hI : RIn w vv cv eb vs X E) (hi : ¬ nextI s.data.toList a < s.data.toList.length) :
    Calls Tryz.prog 36 #[.string s, .int .i64 a, vv, cv, .slice (some ⟨eb, 0, none⟩) (X.length + 1) (X.length + 1), .bool fold] w fun e w' => RestOut (X.length + 1) (valF fold [s.extract a s.size] X E) w e w' := by
  have N := rnext_any s a ha hs w
  rw [nextV_none hi] at N
  have N : Calls Tryz.prog 22 #[.string s, .int .i64 a] w fun e w' => e = .returned (.tuple #[.int .i64 (-1), .int .i64 (-1)]) ∧ w' = w := N
  obtain ⟨W, hW⟩ : ∃ W, w.alloc (.cells #[.string (s.extract a s.size)] 9) = W := ⟨_, rfl⟩
  have hk : Keeps w W := by rw [← hW]; exact (Below.refl _ _).alloc (Nat.le_refl _) _
  have o1 : StrsIn W (.slice (some ⟨w.heap.size, 0, none⟩) 1 1) [s.extract a s.size] := by rw [← hW]; exact one_in w _
  have RV := rvalues_any fold [s.extract a s.size] _ X cv eb E W o1 (by simp) (fun v hv => by rw [List.mem_singleton.1 hv, ByteArray.size_extract]; omega) (hI.chars.below hk) hX hr (hI.ends.below hk)
  have RV : Calls Tryz.prog 63 #[.slice (some ⟨w.heap.size, 0, none⟩) 1 1, cv, .slice (some ⟨eb, 0, none⟩) (X.length + 1) (X.length + 1), .bool fold] W fun e w' => RestOut (X.length + 1) (valF fold [s.extract a s.size] X E) w e w' := RV.mono fun e w' ⟨h1, h2⟩ => ⟨_, h1, h2.1, hk.trans (h2.2.mono hk.size)⟩
  have HW := Lib.hid hW
  have sf := slice_from s a ha
  have A0 : (0 : Int) ≤ (a : Int) := by omega
  obtain ⟨va, vc, rfl⟩ := hI.vars.form
  obtain ⟨ca, cc, rfl, -, -⟩ := hI.chars.form
  generalize X.length + 1 = n at *
  generalize X.length = n0 at *
  generalize vs.length = m at *
  generalize valF fold [s.extract a s.size] X E = F at *
  generalize s.extract a s.size = x at *
  clear hi hI hr hW hk o1 hX
  go_enter Tryz.func36, Tryz.ntmps36
  go_wp2_with fail
  refine N.mono ?_; rintro e w1 ⟨rfl, rfl⟩
  clear N
  go_wp2_with fail
  rw [HW.out]
  refine RV.mono ?_; rintro e w2 ⟨b, rfl, h2⟩
  clear RV
  go_wp2_with fail
  go_ret
  exact ⟨b, rfl, h2⟩
end Go.Proofs.YtoilalffhmjhdaaGreatDoor.subst
/- The document's own rest, ahead of a variable that was handed in. -/
set_option linter.unusedSimpArgs false
set_option linter.unusedVariables false
namespace Go.Proofs.YtoilalffhmjhdaaGreatDoor.subst
open Go.RowKit Go.Proofs.YtoilalffhmjhdaaGreatDoor.errs Go.Proofs.YtoilalffhmjhdaaGreatDoor.rows Go.Proofs.YtoilalffhmjhdaaGreatDoor.utf Go.Proofs.YtoilalffhmjhdaaGreatDoor.umath Go.Proofs.YtoilalffhmjhdaaGreatDoor.text Go.Proofs.YtoilalffhmjhdaaGreatDoor.ref Go.Proofs.YtoilalffhmjhdaaGreatDoor.glref Go.Proofs.YtoilalffhmjhdaaGreatDoor.gmath Go.Proofs.YtoilalffhmjhdaaGreatDoor.chars

theorem RestOut.keeps {n : Nat} {F : Nat → Bool} {w V : World} {e : Ending} {w' : World} (h : RestOut n F V e w') (hb : Keeps w V) : RestOut n F w e w' := by
  obtain ⟨b, h1, h2⟩ := h
  exact ⟨b, h1, h2.out.1, hb.trans (h2.out.2.mono hb.size)⟩
theorem values_out (fold : Bool) (ls : List ByteArray) (lv : Value) (X : List Int) (cv : Value) (eb : Nat) (E : Nat → Bool) (V : World) (hl : StrsIn V lv ls) (hln : ls.length ≤ 1000) (hls : ∀ v ∈ ls, v.size ≤ 1000000) (hc : NumsF V cv X) (hX : X.length ≤ 1000) (hr : ∀ j, j < X.length → right (X.getD j 0) = true) (he : Row V eb (X.length + 1) E) :
    Calls Tryz.prog 63 #[lv, cv, .slice (some ⟨eb, 0, none⟩) (X.length + 1) (X.length + 1), .bool fold] V fun e w' => RestOut (X.length + 1) (valF fold ls X E) V e w' :=
  (rvalues_any fold ls lv X cv eb E V hl hln hls hc hX hr he).mono fun e w' ⟨h1, h2⟩ => ⟨_, h1, h2.1, h2.2⟩

set_option maxRecDepth 100000 in
set_option maxHeartbeats 1000000 in
theorem rest_val (fold : Bool) (s : ByteArray) (vs : List Vr) (X : List Int) (E B : Nat → Bool) (vv cv : Value) (eb a : Nat) (w : World) (x : Vr) (hs : s.size ≤ 1000000) (hf : Few vs) (hX : X.length ≤ 1000) (hr : ∀ j, j < X.length → right (X.getD j 0) = true) (ha : a ≤ s.size) (hI : RIn w vv cv eb vs X E)
    (hi : nextI s.data.toList a < s.data.toList.length) (hj : nextJ s.data.toList (nextI s.data.toList a) < s.data.toList.length) (hc : rcIdx (nameAt s.data.toList (nextI s.data.toList a)) = none) (hx : findVr vs (T (nameAt s.data.toList (nextI s.data.toList a))) = some x)
    (hB : Calls Tryz.prog 36 #[.string s, .int .i64 ((nextJ s.data.toList (nextI s.data.toList a) : Int) + 1), vv, cv, .slice (some ⟨eb, 0, none⟩) (X.length + 1) (X.length + 1), .bool fold] w fun e w' => RestOut (X.length + 1) B w e w') :
    Calls Tryz.prog 36 #[.string s, .int .i64 a, vv, cv, .slice (some ⟨eb, 0, none⟩) (X.length + 1) (X.length + 1), .bool fold] w fun e w' => RestOut (X.length + 1) (valF fold [s.extract a (nextI s.data.toList a)] X (valF fold x.vals X B)) w e w' := by
  have hl : s.data.toList.length = s.size := Array.length_toList
  have N := rnext_any s a ha hs w
  rw [nextV_var hi hj] at N
  have CN := cut_name s (nextI s.data.toList a) hj (by have := hj; unfold nextJ at this; rw [hl] at this; omega)
  have q0 : a ≤ nextI s.data.toList a := Nat.le_add_right _ _
  have q1 : nextI s.data.toList a + 2 ≤ nextJ s.data.toList (nextI s.data.toList a) := Nat.le_add_right _ _
  have q2 : nextJ s.data.toList (nextI s.data.toList a) < s.size := by rw [← hl]; exact hj
  have st := slice_to s a (nextI s.data.toList a) q0 (by omega)
  have hxm : x ∈ vs := List.mem_of_find?_eq_some hx
  have C : ∀ V, Calls Tryz.prog 19 #[.string (T (nameAt s.data.toList (nextI s.data.toList a)))] V fun e w' => e = .returned (.tuple #[.string (rcChars (rcIdx (nameAt s.data.toList (nextI s.data.toList a)))), .int .i64 0]) ∧ Below V.heap.size V w' := fun V => by
    have := rclass_any (nameAt s.data.toList (nextI s.data.toList a)) V
    rw [show rcSize (rcIdx (nameAt s.data.toList (nextI s.data.toList a))) = 0 by rw [hc]; rfl] at this
    exact this
  have F := Lib.hid fun (V : World) (hV : Keeps w V) => (show Calls Tryz.prog 23 #[vv, .string (T (nameAt s.data.toList (nextI s.data.toList a)))] V fun e w' => ∃ sv, e = .returned (.tuple #[sv, .bool true]) ∧ Hid (StrsIn V sv x.vals) ∧ w' = V by
    have := rfind_any vs vv (T (nameAt s.data.toList (nextI s.data.toList a))) V (hI.vars.below hV) (by have := hf.1; omega)
    rw [hx] at this
    exact this)
  have V1 := Lib.hid fun (V : World) (sv : Value) (b : Nat) (hV : Keeps w V) (h1 : StrsIn V sv x.vals) (h2 : Row V b (X.length + 1) B) => values_out fold x.vals sv X cv b B V h1 (by have := (hf.2 x hxm).1; omega) (fun v hv => by have := (hf.2 x hxm).2.2 v hv; omega) (hI.chars.below hV) hX hr h2
  have V2 := Lib.hid fun (V : World) (b : Nat) (hV : Keeps w V) (h2 : Row V b (X.length + 1) (valF fold x.vals X B)) => values_out fold [s.extract a (nextI s.data.toList a)] (.slice (some ⟨V.heap.size, 0, none⟩) 1 1) X cv b (valF fold x.vals X B) (V.alloc (.cells #[.string (s.extract a (nextI s.data.toList a))] 9)) (one_in V _) (by simp) (fun v hv => by rw [List.mem_singleton.1 hv, ByteArray.size_extract]; omega) (hI.chars.below (hV.trans ((Below.refl _ _).alloc hV.size _))) hX hr (h2.below ((Below.refl _ _).alloc (Nat.le_refl _) _))
  have mk : ∀ W, (Instr.makeSlice 75 (.int .i64 ((X.length + 1 : Nat) : Int)) (.int .i64 ((X.length + 1 : Nat) : Int))).run Tryz.prog W = .ok (.slice (some ⟨W.heap.size, 0, none⟩) (X.length + 1) (X.length + 1)) (made W (X.length + 1)) := fun W => run_made (X.length + 1) (by omega) W
  have A0 : (0 : Int) ≤ (a : Int) := by omega
  obtain ⟨va, vc, rfl⟩ := hI.vars.form
  obtain ⟨ca, cc, rfl, -, -⟩ := hI.chars.form
  generalize valF fold [s.extract a (nextI s.data.toList a)] X (valF fold x.vals X B) = G at *
  generalize valF fold x.vals X B = H at *
  generalize s.extract a (nextI s.data.toList a) = px at *
  generalize T (nameAt s.data.toList (nextI s.data.toList a)) = nm at *
  generalize rcChars (rcIdx (nameAt s.data.toList (nextI s.data.toList a))) = ch at *
  clear hc hx
  generalize nextJ s.data.toList (nextI s.data.toList a) = J at *
  generalize nextI s.data.toList a = I at *
  clear hi hj hl hr hI hf hxm
  generalize X.length + 1 = n at *
  generalize X.length = n0 at *
  generalize vs.length = m at *
  have v0 : (0 : Int) ≤ (I : Int) := by omega
  have v1 : (0 : Int) ≤ (J : Int) := by omega
  go_enter Tryz.func36, Tryz.ntmps36
  go_wp2_with fail
  refine N.mono ?_; rintro e w1 ⟨rfl, rfl⟩
  clear N
  go_wp2_with fail
  refine hB.mono ?_; rintro e w2 ⟨b2, rfl, h2⟩
  clear hB
  go_wp2_with fail
  refine (C _).mono ?_; rintro e w3 ⟨rfl, hb3⟩
  have K3 : Hid (Keeps w1 w3 ∧ Row w3 b2 n B) := ⟨h2.out.2.trans (hb3.mono h2.out.2.size), h2.out.1.below hb3⟩
  clear hb3 C h2
  go_wp2_with fail
  have K4 : Hid (Keeps w1 (made w3 n) ∧ Row (made w3 n) b2 n B) := ⟨K3.out.1.trans ((made_below w3 n).mono K3.out.1.size), K3.out.2.below (made_below w3 n)⟩
  generalize made w3 n = w4 at *
  clear K3
  refine (F.out w4 K4.out.1).mono ?_; rintro e w5 ⟨sv, rfl, hS, rfl⟩
  have V1' := V1.out w5 sv b2 K4.out.1 hS.out K4.out.2
  clear F V1 mk
  go_wp2_with fail
  refine V1'.mono ?_; rintro e w6 ⟨b6, rfl, h6⟩
  have K6 : Hid (Keeps w1 w6) := K4.out.1.trans (h6.out.2.mono K4.out.1.size)
  have V2' := V2.out w6 b6 K6.out h6.out.1
  have K7 : Hid (Keeps w1 (w6.alloc (.cells #[.string px] 9))) := K6.out.trans ((Below.refl _ _).alloc K6.out.size _)
  clear V1' V2 h6
  go_wp2_with fail
  refine V2'.mono ?_; rintro e w8 hq
  obtain ⟨b8, rfl, h8⟩ := hq.keeps K7.out
  clear V2'
  go_wp2_with fail
  go_ret
  exact ⟨b8, rfl, h8⟩
end Go.Proofs.YtoilalffhmjhdaaGreatDoor.subst
/- The document's own rest, ahead of a variable that there is always. -/
set_option linter.unusedSimpArgs false
set_option linter.unusedVariables false
namespace Go.Proofs.YtoilalffhmjhdaaGreatDoor.subst
open Go.RowKit Go.Proofs.YtoilalffhmjhdaaGreatDoor.errs Go.Proofs.YtoilalffhmjhdaaGreatDoor.rows Go.Proofs.YtoilalffhmjhdaaGreatDoor.utf Go.Proofs.YtoilalffhmjhdaaGreatDoor.umath Go.Proofs.YtoilalffhmjhdaaGreatDoor.text Go.Proofs.YtoilalffhmjhdaaGreatDoor.ref Go.Proofs.YtoilalffhmjhdaaGreatDoor.glref Go.Proofs.YtoilalffhmjhdaaGreatDoor.gmath Go.Proofs.YtoilalffhmjhdaaGreatDoor.chars

def clsR (fold : Bool) (X : List Int) (list : List UInt8) (z : Nat) (B : Nat → Bool) (a : Nat) : Bool := decide (a + z ≤ X.length) && (B (a + z) && amongB fold X a z list)
set_option maxRecDepth 100000 in
set_option maxHeartbeats 1000000 in
theorem rest_cls (fold : Bool) (s : ByteArray) (vs : List Vr) (X : List Int) (E B : Nat → Bool) (vv cv : Value) (eb a : Nat) (w : World) (k z : Nat) (hs : s.size ≤ 1000000) (hX : X.length ≤ 1000) (hr : ∀ j, j < X.length → right (X.getD j 0) = true) (h0 : ∀ j, 0 ≤ X.getD j 0) (ha : a ≤ s.size) (hI : RIn w vv cv eb vs X E)
    (hi : nextI s.data.toList a < s.data.toList.length) (hj : nextJ s.data.toList (nextI s.data.toList a) < s.data.toList.length) (hc : rcIdx (nameAt s.data.toList (nextI s.data.toList a)) = some k) (hz : rcSize (some k) = (z : Int)) (hz1 : 1 ≤ z) (hz2 : z ≤ 2) (hll : (rcAt k).length ≤ 1000)
    (hB : Calls Tryz.prog 36 #[.string s, .int .i64 ((nextJ s.data.toList (nextI s.data.toList a) : Int) + 1), vv, cv, .slice (some ⟨eb, 0, none⟩) (X.length + 1) (X.length + 1), .bool fold] w fun e w' => RestOut (X.length + 1) B w e w') :
    Calls Tryz.prog 36 #[.string s, .int .i64 a, vv, cv, .slice (some ⟨eb, 0, none⟩) (X.length + 1) (X.length + 1), .bool fold] w fun e w' => RestOut (X.length + 1) (valF fold [s.extract a (nextI s.data.toList a)] X (clsR fold X (rcAt k) z B)) w e w' := by
  have hl : s.data.toList.length = s.size := Array.length_toList
  have N := rnext_any s a ha hs w
  rw [nextV_var hi hj] at N
  have CN := cut_name s (nextI s.data.toList a) hj (by have := hj; unfold nextJ at this; rw [hl] at this; omega)
  have q0 : a ≤ nextI s.data.toList a := Nat.le_add_right _ _
  have q1 : nextI s.data.toList a + 2 ≤ nextJ s.data.toList (nextI s.data.toList a) := Nat.le_add_right _ _
  have q2 : nextJ s.data.toList (nextI s.data.toList a) < s.size := by rw [← hl]; exact hj
  have st := slice_to s a (nextI s.data.toList a) q0 (by omega)
  have C : ∀ V, Calls Tryz.prog 19 #[.string (T (nameAt s.data.toList (nextI s.data.toList a)))] V fun e w' => e = .returned (.tuple #[.string (T (rcAt k)), .int .i64 (z : Int)]) ∧ Below V.heap.size V w' := fun V => by
    have := rclass_any (nameAt s.data.toList (nextI s.data.toList a)) V
    rw [hc, hz] at this
    exact this
  have AM := Lib.hid fun (V : World) (i : Nat) (hV : Keeps w V) (h : i + z ≤ X.length) => among_any fold X cv i z (rcAt k) V (hI.chars.below hV) h h0 (by omega) hll
  have V2 := Lib.hid fun (V : World) (b : Nat) (hV : Keeps w V) (h2 : Row V b (X.length + 1) (clsR fold X (rcAt k) z B)) => values_out fold [s.extract a (nextI s.data.toList a)] (.slice (some ⟨V.heap.size, 0, none⟩) 1 1) X cv b (clsR fold X (rcAt k) z B) (V.alloc (.cells #[.string (s.extract a (nextI s.data.toList a))] 9)) (one_in V _) (by simp) (fun v hv => by rw [List.mem_singleton.1 hv, ByteArray.size_extract]; omega) (hI.chars.below (hV.trans ((Below.refl _ _).alloc hV.size _))) hX hr (h2.below ((Below.refl _ _).alloc (Nat.le_refl _) _))
  have mk : ∀ W, (Instr.makeSlice 75 (.int .i64 ((X.length + 1 : Nat) : Int)) (.int .i64 ((X.length + 1 : Nat) : Int))).run Tryz.prog W = .ok (.slice (some ⟨W.heap.size, 0, none⟩) (X.length + 1) (X.length + 1)) (made W (X.length + 1)) := fun W => run_made (X.length + 1) (by omega) W
  have HR : Hid (∀ i, i + z ≤ X.length → clsR fold X (rcAt k) z B i = (B (i + z) && amongB fold X i z (rcAt k))) := fun i h => by unfold clsR; rw [decide_eq_true h, Bool.true_and]
  have HF : Hid (∀ i, ¬ i + z ≤ X.length → clsR fold X (rcAt k) z B i = false) := fun i h => by unfold clsR; rw [decide_eq_false h, Bool.false_and]
  have A0 : (0 : Int) ≤ (a : Int) := by omega
  have Z0 : (0 : Int) < (z : Int) := by omega
  have Zn : 0 < z := by omega
  have hnb : X.length + 1 ≤ 1001 := by omega
  obtain ⟨va, vc, rfl⟩ := hI.vars.form
  obtain ⟨ca, cc, rfl, -, -⟩ := hI.chars.form
  generalize valF fold [s.extract a (nextI s.data.toList a)] X (clsR fold X (rcAt k) z B) = G at *
  generalize clsR fold X (rcAt k) z B = H at *
  generalize s.extract a (nextI s.data.toList a) = px at *
  generalize T (nameAt s.data.toList (nextI s.data.toList a)) = nm at *
  clear hc hz hll
  generalize T (rcAt k) = ls at *
  generalize nextJ s.data.toList (nextI s.data.toList a) = J at *
  generalize nextI s.data.toList a = I at *
  clear hi hj hl hr hI h0 hX
  obtain ⟨n, hn⟩ : ∃ n, X.length + 1 = n := ⟨_, rfl⟩
  have HN : Hid (X.length + 1 = n) := hn
  rw [hn] at hB V2 mk hnb ⊢
  clear hn
  have HL : Hid (∀ i, (i + z ≤ X.length) = (i + z < n)) := fun i => by have := HN.out; exact propext ⟨fun _ => by omega, fun _ => by omega⟩
  generalize X.length = n0 at *
  generalize vs.length = m at *
  have v0 : (0 : Int) ≤ (I : Int) := by omega
  have v1 : (0 : Int) ≤ (J : Int) := by omega
  go_enter Tryz.func36, Tryz.ntmps36
  go_wp2_with fail
  refine N.mono ?_; rintro e w1 ⟨rfl, rfl⟩
  clear N
  go_wp2_with fail
  refine hB.mono ?_; rintro e w2 ⟨b2, rfl, h2⟩
  clear hB
  go_wp2_with fail
  refine (C _).mono ?_; rintro e w3 ⟨rfl, hb3⟩
  have K3 : Hid (Keeps w1 w3 ∧ Row w3 b2 n B) := ⟨h2.out.2.trans (hb3.mono h2.out.2.size), h2.out.1.below hb3⟩
  clear hb3 C h2
  have n1 : 0 < n := by have := HN.out; omega
  have K4 : Hid (Row (made w3 n) w3.heap.size n (fun a => if a < 0 then H a else false) ∧ Row (made w3 n) b2 n B ∧ Keeps w1 (made w3 n) ∧ b2 < w3.heap.size ∧ w1.heap.size ≤ w3.heap.size) := ⟨(made_row w3 n).congr fun k _ => by rw [if_neg (by omega)], K3.out.2.below (made_below w3 n), K3.out.1.trans ((made_below w3 n).mono K3.out.1.size), K3.out.2.lt n1, K3.out.1.size⟩
  go_wp2_with fail
  generalize made w3 n = w4 at *
  generalize w3.heap.size = hb at *
  clear K3 mk
  go_loopg [19] n (fun g t wr => ∃ i : Nat, t = .int .i64 i ∧ i ≤ n ∧ g + i = n ∧ Hid (Row wr hb n (fun a => if a < i then H a else false) ∧ Row wr b2 n B ∧ Keeps w1 wr ∧ b2 < hb ∧ w1.heap.size ≤ hb))
  case atStart => exact ⟨0, rfl, Nat.zero_le _, rfl, K4⟩
  case round =>
    clear K4
    obtain ⟨i, rfl, hin, hg, hA⟩ := hrel
    have y0 : (0 : Int) ≤ (i : Int) := by omega
    by_cases hlt : i + z < n
    · have y1 : (i : Int) + (z : Int) < (n : Int) := by omega
      have y2 : (i : Int) < (n : Int) := by omega
      have y3 : (0 : Int) ≤ (i : Int) + (z : Int) := by omega
      have hle : i + z ≤ n0 := by rw [HL.out]; exact hlt
      have HH := HR.out i hle
      have AM1 := AM.out wr i hA.out.2.2.1 hle
      obtain ⟨e0, -⟩ := hA.out.2.1 (i + z) hlt
      obtain ⟨o0, o1⟩ := hA.out.1 i (by omega)
      have STO : Hid (∀ U x, Keeps wr U → x = H i → Row (U.setCell ⟨hb, i, none⟩ (.bool x)) hb n (fun a => if a < i + 1 then H a else false) ∧ Row (U.setCell ⟨hb, i, none⟩ (.bool x)) b2 n B ∧ Keeps w1 (U.setCell ⟨hb, i, none⟩ (.bool x)) ∧ b2 < hb ∧ w1.heap.size ≤ hb) := fun U x hU hx => by
        obtain ⟨r1, r2, r3, r4, r5⟩ := hA.out
        refine ⟨((r1.below hU).set (by omega) x).congr fun a _ => ?_, (r2.below hU).far (by omega) _, (r3.trans (hU.mono r3.size)).setCell (p := ⟨hb, i, none⟩) r5 _, r4, r5⟩
        by_cases e : a = i
        · subst e; rw [if_pos rfl, if_pos (by omega), hx]
        · rw [if_neg e]
          by_cases q : a < i
          · rw [if_pos q, if_pos (by omega)]
          · rw [if_neg q, if_neg (by omega)]
      have OC : Hid (∀ U, Keeps wr U → ∃ v, U.cell? ⟨hb, i, none⟩ = some v ∧ U.frozen? ⟨hb, i, none⟩ = false) := fun U hU => by
        obtain ⟨p0, p1⟩ := (hA.out.1.below hU) i (by omega)
        exact ⟨_, p0, p1⟩
      generalize amongB fold X i z (rcAt k) = am at *
      cases hb2 : B (i + z) with
      | false =>
        rw [hb2] at e0 HH
        have NX := Lib.hid (STO.out wr false (Below.refl _ _) HH.symm)
        clear hA STO OC AM1 HH hle
        go_wp2_with fail
        go_roundg (gk - 1)
        case measure => omega
        case rel => exact ⟨i + 1, by go_num, by omega, by omega, NX⟩
      | true =>
        rw [hb2, Bool.true_and] at HH
        rw [hb2] at e0
        have HHs := Lib.hid HH.symm
        clear hA hle HH
        go_wp2_with fail
        refine AM1.mono ?_; rintro e w5 ⟨rfl, hb5⟩
        obtain ⟨v5, p0, p1⟩ := OC.out w5 hb5
        have NX := Lib.hid (STO.out w5 am hb5 HHs.out)
        clear STO OC AM1 hb5 o0 o1
        go_wp2_with fail
        go_roundg (gk - 1)
        case measure => omega
        case rel => exact ⟨i + 1, by go_num, by omega, by omega, NX⟩
    · have y1 : ¬ (i : Int) + (z : Int) < (n : Int) := by omega
      have K5 : Hid (Row wr hb n H ∧ Keeps w1 wr) := ⟨hA.out.1.congr fun a _ => by
        by_cases q : a < i
        · rw [if_pos q]
        · rw [if_neg q, HF.out a (by rw [HL.out]; omega)], hA.out.2.2.1⟩
      have V2' := V2.out wr hb K5.out.2 K5.out.1
      have K7 : Hid (Keeps w1 (wr.alloc (.cells #[.string px] 9))) := K5.out.2.trans ((Below.refl _ _).alloc K5.out.2.size _)
      clear V2 hA
      go_wp2_with fail
      refine V2'.mono ?_; rintro e w8 hq
      obtain ⟨b8, rfl, h8⟩ := hq.keeps K7.out
      clear V2'
      go_wp2_with fail
      go_ret
      exact ⟨b8, rfl, h8⟩
end Go.Proofs.YtoilalffhmjhdaaGreatDoor.subst
/- The document's own rest, at any place of a right pattern. -/
set_option linter.unusedSimpArgs false
set_option linter.unusedVariables false
namespace Go.Proofs.YtoilalffhmjhdaaGreatDoor.subst
open Go.RowKit Go.Proofs.YtoilalffhmjhdaaGreatDoor.errs Go.Proofs.YtoilalffhmjhdaaGreatDoor.rows Go.Proofs.YtoilalffhmjhdaaGreatDoor.utf Go.Proofs.YtoilalffhmjhdaaGreatDoor.umath Go.Proofs.YtoilalffhmjhdaaGreatDoor.text Go.Proofs.YtoilalffhmjhdaaGreatDoor.ref Go.Proofs.YtoilalffhmjhdaaGreatDoor.glref Go.Proofs.YtoilalffhmjhdaaGreatDoor.gmath Go.Proofs.YtoilalffhmjhdaaGreatDoor.chars

theorem rcAt_len : ∀ k, (rcAt k).length ≤ 1000
  | 0 | 1 | 2 | 3 | 4 | 5 | 6 | 7 => by decide
  | n + 8 => by
    have e : rcAt (n + 8) = [] := by unfold rcAt; rw [List.getD_eq_getElem?_getD, List.getElem?_eq_none (by show 8 ≤ n + 8; omega)]; rfl
    rw [e]; decide
theorem rrest_any (fold : Bool) (s : ByteArray) (vs : List Vr) (X : List Int) (E : Nat → Bool) (vv cv : Value) (eb : Nat) (hs : s.size ≤ 1000000) (hf : Few vs) (hX : X.length ≤ 1000) (hr : ∀ j, j < X.length → right (X.getD j 0) = true) (h0 : ∀ j, 0 ≤ X.getD j 0) :
    ∀ (g a : Nat) (w : World), s.size < a + g → a ≤ s.size → RIn w vv cv eb vs X E → (partsBad (knownV vs) (Pf s.data.toList a)).1 = 0 →
    Calls Tryz.prog 36 #[.string s, .int .i64 a, vv, cv, .slice (some ⟨eb, 0, none⟩) (X.length + 1) (X.length + 1), .bool fold] w fun e w' => RestOut (X.length + 1) (docR fold vs X s E g a) w e w' := by
  intro g
  induction g with
  | zero => intro a w h1 h2; omega
  | succ g ih =>
    intro a w hg ha hI hB
    have hl : s.data.toList.length = s.size := Array.length_toList
    have hal : a ≤ s.data.toList.length := by rw [hl]; exact ha
    by_cases hi : nextI s.data.toList a < s.data.toList.length
    · have hj : nextJ s.data.toList (nextI s.data.toList a) < s.data.toList.length := by
        rcases Nat.lt_or_ge (nextJ s.data.toList (nextI s.data.toList a)) s.data.toList.length with q | q
        · exact q
        · rw [bad_open (knownV vs) hal hi (by omega)] at hB
          exact absurd hB (show ¬ ((10 : Int) = 0) by decide)
      rw [bad_var (knownV vs) hal hi hj] at hB
      have hkn : knownV vs (nameAt s.data.toList (nextI s.data.toList a)) = true := by
        cases q : knownV vs (nameAt s.data.toList (nextI s.data.toList a)) with
        | true => rfl
        | false => rw [q, if_neg (by decide)] at hB; exact absurd hB (show ¬ ((30 : Int) = 0) by decide)
      rw [hkn, if_pos rfl] at hB
      have q0 : a ≤ nextI s.data.toList a := Nat.le_add_right _ _
      have q1 : nextI s.data.toList a + 2 ≤ nextJ s.data.toList (nextI s.data.toList a) := Nat.le_add_right _ _
      have R := ih (nextJ s.data.toList (nextI s.data.toList a) + 1) w (by omega) (by omega) hI hB
      rw [show ((nextJ s.data.toList (nextI s.data.toList a) + 1 : Nat) : Int) = (nextJ s.data.toList (nextI s.data.toList a) : Int) + 1 by omega] at R
      have D : docR fold vs X s E (g + 1) a = valF fold [s.extract a (nextI s.data.toList a)] X (varR fold vs X (nameAt s.data.toList (nextI s.data.toList a)) (docR fold vs X s E g (nextJ s.data.toList (nextI s.data.toList a) + 1))) := by
        show (if _ then _ else _) = _
        rw [if_pos hi]
      rw [D]
      cases hc : rcIdx (nameAt s.data.toList (nextI s.data.toList a)) with
      | some k =>
        have e : varR fold vs X (nameAt s.data.toList (nextI s.data.toList a)) (docR fold vs X s E g (nextJ s.data.toList (nextI s.data.toList a) + 1)) = clsR fold X (rcAt k) (rcSize (some k)).toNat (docR fold vs X s E g (nextJ s.data.toList (nextI s.data.toList a) + 1)) := by
          unfold varR
          rw [hc]
          rfl
        rw [e]
        have hz : rcSize (some k) = 1 ∨ rcSize (some k) = 2 := by
          show (if 5 < k then (2 : Int) else 1) = 1 ∨ (if 5 < k then (2 : Int) else 1) = 2
          split
          · exact .inr rfl
          · exact .inl rfl
        exact rest_cls fold s vs X E _ vv cv eb a w k _ hs hX hr h0 ha hI hi hj hc (by omega) (by omega) (by omega) (rcAt_len k) R
      | none =>
        have hx : ∃ x, findVr vs (T (nameAt s.data.toList (nextI s.data.toList a))) = some x := by
          have o := rcIdx_own (nameAt s.data.toList (nextI s.data.toList a))
          rw [hc] at o
          unfold knownV at hkn
          rw [← o] at hkn
          cases q : findVr vs (T (nameAt s.data.toList (nextI s.data.toList a))) with
          | some x => exact ⟨x, rfl⟩
          | none => rw [q] at hkn; cases hkn
        obtain ⟨x, hx⟩ := hx
        have e : varR fold vs X (nameAt s.data.toList (nextI s.data.toList a)) (docR fold vs X s E g (nextJ s.data.toList (nextI s.data.toList a) + 1)) = valF fold x.vals X (docR fold vs X s E g (nextJ s.data.toList (nextI s.data.toList a) + 1)) := by
          unfold varR
          rw [hc, hx]
          rfl
        rw [e]
        exact rest_val fold s vs X E _ vv cv eb a w x hs hf hX hr ha hI hi hj hc hx R
    · have D : docR fold vs X s E (g + 1) a = valF fold [s.extract a s.size] X E := by
        show (if _ then _ else _) = _
        rw [if_neg hi]
      rw [D]
      exact rest_end fold s vs X E vv cv eb a w hs hX hr ha hI hi
end Go.Proofs.YtoilalffhmjhdaaGreatDoor.subst
/- Plain mathematics: a right text, cut at a byte of ASCII, is right on both sides. -/
set_option linter.unusedSimpArgs false
set_option linter.unusedVariables false
namespace Go.Proofs.YtoilalffhmjhdaaGreatDoor.subst
open Go.RowKit Go.Proofs.YtoilalffhmjhdaaGreatDoor.errs Go.Proofs.YtoilalffhmjhdaaGreatDoor.rows Go.Proofs.YtoilalffhmjhdaaGreatDoor.utf Go.Proofs.YtoilalffhmjhdaaGreatDoor.umath Go.Proofs.YtoilalffhmjhdaaGreatDoor.text Go.Proofs.YtoilalffhmjhdaaGreatDoor.ref Go.Proofs.YtoilalffhmjhdaaGreatDoor.glref Go.Proofs.YtoilalffhmjhdaaGreatDoor.gmath Go.Proofs.YtoilalffhmjhdaaGreatDoor.chars

theorem app_left (a b : ByteArray) (j : Nat) (h : j < a.size) : (a ++ b).get! j = a.get! j := by
  have h' : j < a.data.size := h
  show ((a ++ b).data)[j]! = a.data[j]!
  rw [ByteArray.data_append, getElem!_pos (a.data ++ b.data) j (by rw [Array.size_append]; omega), getElem!_pos a.data j h', Array.getElem_append_left h']
theorem app_right (a b : ByteArray) (j : Nat) : (a ++ b).get! (a.size + j) = b.get! j := by
  show ((a ++ b).data)[a.data.size + j]! = b.data[j]!
  rw [ByteArray.data_append]
  by_cases h : j < b.data.size
  · rw [getElem!_pos (a.data ++ b.data) _ (by rw [Array.size_append]; omega), getElem!_pos b.data j h, Array.getElem_append_right (by omega)]
    congr 1
    omega
  · rw [getElem!_neg (a.data ++ b.data) _ (by rw [Array.size_append]; omega), getElem!_neg b.data j h]
theorem app_tail (a b : ByteArray) : Tail (a ++ b) b a.size := ⟨ByteArray.size_append, app_right a b⟩
theorem joined_app (a b : ByteArray) (ha : firstBad a = none) : firstBad (a ++ b) = (firstBad b).map (a.size + ·) ∧ all (a ++ b) = all a ++ all b := joined a b (a ++ b) ha (fun j hj => app_left a b j hj) (app_tail a b)
theorem on_byte (s : ByteArray) (i j : Nat) (h1 : i < j) (h2 : j < i + (Utf8.decode s i).2) : (s.get! j).toNat / 64 = 2 := by
  rw [Lib.decode_at] at h2
  unfold Lib.decodeN at h2
  generalize hb0 : (s.get! i).toNat = b0 at h2
  generalize hb1 : (s.get! (i + 1)).toNat = b1 at h2
  generalize hb2 : (s.get! (i + 2)).toNat = b2 at h2
  generalize hb3 : (s.get! (i + 3)).toNat = b3 at h2
  repeat' split at h2
  all_goals simp at h2
  all_goals first
    | omega
    | (rcases (show j = i + 1 ∨ j = i + 2 ∨ j = i + 3 by omega) with rfl | rfl | rfl <;> omega)
/-- Where all is right, and something of ASCII stands at a place, what is ahead of it is right. -/
theorem scan_ahead (a b : ByteArray) (hb : (b.get! 0).toNat < 128) (h0 : 0 < b.size) : ∀ (g i : Nat), i ≤ a.size → scan (a ++ b) g i = none → scan a g i = none
  | 0, _, _, _ => rfl
  | g + 1, i, hi, h => by
    by_cases hlt : i < a.size
    · have hz : (a ++ b).size = a.size + b.size := ByteArray.size_append
      have hs : i < (a ++ b).size := by omega
      cases hc : charAt (a ++ b) i with
      | false => rw [scan_bad _ g i hs hc] at h; cases h
      | true =>
        rw [scan_step _ g i hs hc] at h
        obtain ⟨r1, r2, r3⟩ := char_put (a ++ b) i hs hc
        have hfit : i + (Utf8.decode (a ++ b) i).2 ≤ a.size := by
          rcases Nat.lt_or_ge a.size (i + (Utf8.decode (a ++ b) i).2) with q | q
          · have := on_byte (a ++ b) i a.size hlt q
            have e : (a ++ b).get! a.size = b.get! 0 := app_right a b 0
            rw [e] at this
            omega
          · exact q
        have hh : Holds a i (put (Utf8.decode (a ++ b) i).1) := by
          refine ⟨by rw [r2]; exact hfit, fun j hj => ?_⟩
          rw [← r3.2 j hj]
          unfold bt
          rw [app_left a b (i + j) (by rw [r2] at hj; omega)]
        obtain ⟨d1, d2, d3⟩ := decode_put a i _ r1 hh
        rw [scan_step a g i hlt d1, d3, r2]
        exact scan_ahead a b hb h0 g _ hfit h
    · exact scan_end a _ i (by omega)
theorem ahead_right (a b : ByteArray) (hb : (b.get! 0).toNat < 128) (h0 : 0 < b.size) (h : firstBad (a ++ b) = none) : firstBad a = none := by
  unfold firstBad at h
  have := scan_ahead a b hb h0 _ 0 (Nat.zero_le _) h
  unfold firstBad
  rw [← scan_more a a.size (a ++ b).size 0 (by omega) (by rw [ByteArray.size_append]; omega)]
  exact this
theorem cut_two (s : ByteArray) (a b : Nat) (h : a ≤ b) (hb : b ≤ s.size) : s.extract a b ++ s.extract b s.size = s.extract a s.size := by
  rw [ByteArray.extract_append_extract, Nat.min_eq_left h, Nat.max_eq_right hb]
/-- Right from a place on, and something of ASCII at another one: right up to there, and from there on. -/
theorem right_split {s : ByteArray} {a b : Nat} (h : a ≤ b) (hb : b < s.size) (hc : (s.get! b).toNat < 128) (hr : firstBad (s.extract a s.size) = none) : firstBad (s.extract a b) = none ∧ firstBad (s.extract b s.size) = none := by
  have e := cut_two s a b h (by omega)
  have h1 : firstBad (s.extract a b) = none := by
    refine ahead_right (s.extract a b) (s.extract b s.size) ?_ ?_ (by rw [e]; exact hr)
    · rw [Lib.tail_get!, Nat.add_zero]; exact hc
    · rw [ByteArray.size_extract]; omega
  refine ⟨h1, ?_⟩
  have h2 := (joined_app (s.extract a b) (s.extract b s.size) h1).1
  rw [e, hr] at h2
  cases h3 : firstBad (s.extract b s.size) with
  | none => rfl
  | some i => rw [h3] at h2; cases h2
theorem one_get {s : ByteArray} {i : Nat} (h : i < s.size) : (s.extract i (i + 1)).get! 0 = s.get! i := by
  have e := cut_two s i (i + 1) (Nat.le_succ i) h
  have h1 := app_left (s.extract i (i + 1)) (s.extract (i + 1) s.size) 0 (by rw [ByteArray.size_extract]; omega)
  rw [e, Lib.tail_get!, Nat.add_zero] at h1
  exact h1.symm
theorem right_next {s : ByteArray} {i : Nat} (hi : i < s.size) (hc : (s.get! i).toNat < 128) (hr : firstBad (s.extract i s.size) = none) : firstBad (s.extract (i + 1) s.size) = none := by
  have e := cut_two s i (i + 1) (Nat.le_succ i) hi
  have h1 : firstBad (s.extract i (i + 1)) = none := by
    have hz : (s.extract i (i + 1)).size = 1 := by rw [ByteArray.size_extract]; omega
    have hg := one_get hi
    have hd : Utf8.decode (s.extract i (i + 1)) 0 = ((s.get! i).toNat, 1) := by
      rw [Lib.decode_at, hg]
      unfold Lib.decodeN
      rw [if_pos hc]
    unfold firstBad
    rw [hz, scan_step _ 0 0 (by omega) (by
      unfold charAt
      rw [hd]
      show (!(((s.get! i).toNat == 65533) && true)) = true
      rw [Bool.and_true, beq_eq_false_iff_ne.2 (show ¬ (s.get! i).toNat = 65533 by omega)]
      rfl)]
    rfl
  have h2 := (joined_app (s.extract i (i + 1)) (s.extract (i + 1) s.size) h1).1
  rw [e, hr] at h2
  cases h3 : firstBad (s.extract (i + 1) s.size) with
  | none => rfl
  | some i => rw [h3] at h2; cases h2
end Go.Proofs.YtoilalffhmjhdaaGreatDoor.subst
/- The document's rest of a pattern, from a text's beginning on, is what the program's parts give: both ask whether the text can be cut in pieces, one for each part. -/
set_option linter.unusedSimpArgs false
set_option linter.unusedVariables false
namespace Go.Proofs.YtoilalffhmjhdaaGreatDoor.subst
open Go.RowKit Go.Proofs.YtoilalffhmjhdaaGreatDoor.errs Go.Proofs.YtoilalffhmjhdaaGreatDoor.rows Go.Proofs.YtoilalffhmjhdaaGreatDoor.utf Go.Proofs.YtoilalffhmjhdaaGreatDoor.umath Go.Proofs.YtoilalffhmjhdaaGreatDoor.text Go.Proofs.YtoilalffhmjhdaaGreatDoor.ref Go.Proofs.YtoilalffhmjhdaaGreatDoor.glref Go.Proofs.YtoilalffhmjhdaaGreatDoor.gmath Go.Proofs.YtoilalffhmjhdaaGreatDoor.chars

theorem piece_map (f : Int → Int) (X : List Int) (a k : Nat) : piece (X.map f) a k = (piece X a k).map f := by
  unfold piece
  rw [List.map_take, List.map_drop]
/-- One pattern against a piece of the text. -/
theorem match_piece (fold : Bool) (v : ByteArray) {X : List Int} (hr : ∀ j, j < X.length → right (X.getD j 0) = true) (i k : Nat) (hik : i ≤ k) (hk : k ≤ X.length) :
    matchOf fold v (cutT X i k) = (okP v && lang false ((all v).map (fo fold)) (piece (X.map (fo fold)) i k)) := by
  obtain ⟨h1, h2⟩ := reads_upto (piece X i k) (badAt_piece hr i k hik hk)
  unfold matchOf okP cutT
  rw [h1, h2, lang_fo fold, piece_map]
  simp
theorem fit_iff (fold : Bool) (ls : List ByteArray) {X : List Int} (hr : ∀ j, j < X.length → right (X.getD j 0) = true) (i k : Nat) (hik : i ≤ k) (hk : k ≤ X.length) :
    fitB fold ls X i k = true ↔ ∃ P ∈ okPats fold ls, lang false P (piece (X.map (fo fold)) i k) = true := by
  unfold fitB okPats
  rw [List.any_eq_true]
  constructor
  · rintro ⟨v, hv, h⟩
    rw [match_piece fold v hr i k hik hk, Bool.and_eq_true] at h
    exact ⟨_, List.mem_map.2 ⟨v, List.mem_filter.2 ⟨hv, h.1⟩, rfl⟩, h.2⟩
  · rintro ⟨P, hP, h⟩
    obtain ⟨v, hv, rfl⟩ := List.mem_map.1 hP
    obtain ⟨h1, h2⟩ := List.mem_filter.1 hv
    exact ⟨v, h1, by rw [match_piece fold v hr i k hik hk, Bool.and_eq_true]; exact ⟨h2, h⟩⟩
theorem val_iff (fold : Bool) (ls : List ByteArray) {X : List Int} (hr : ∀ j, j < X.length → right (X.getD j 0) = true) (E : Nat → Bool) (i : Nat) :
    valF fold ls X E i = true ↔ ∃ k, i ≤ k ∧ k ≤ X.length ∧ E k = true ∧ ∃ P ∈ okPats fold ls, lang false P (piece (X.map (fo fold)) i k) = true := by
  unfold valF
  rw [restK_iff]
  constructor
  · rintro ⟨k, h1, h2, h3⟩
    unfold hitB at h3
    rw [Bool.and_eq_true] at h3
    exact ⟨k, h1, h2, h3.1, (fit_iff fold ls hr i k h1 h2).1 h3.2⟩
  · rintro ⟨k, h1, h2, h3, h4⟩
    refine ⟨k, h1, h2, ?_⟩
    unfold hitB
    rw [Bool.and_eq_true]
    exact ⟨h3, (fit_iff fold ls hr i k h1 h2).2 h4⟩
theorem pats_one (fold : Bool) {v : ByteArray} (h : firstBad v = none) (hz : v.size ≤ 1024) : okPats fold [v] = [(all v).map (fo fold)] := by
  have : okP v = true := by
    unfold okP checkOf
    rw [if_neg (by omega), h]
    rfl
  unfold okPats
  rw [List.filter_cons, if_pos this]
  rfl
theorem ext_T (s : ByteArray) (a b : Nat) : s.extract a b = T ((s.data.toList.drop a).take (b - a)) := by
  have e3 : (s.extract a b).data.toList = (s.data.toList.drop a).take (b - a) := by
    rw [ByteArray.data_extract, Array.toList_extract, List.extract_eq_take_drop]
  rw [← e3]
  rfl
/-- What stands ahead of the first variable, as one pattern. -/
theorem ahead_iff (fold : Bool) (vs : List Vr) (s : ByteArray) (X : List Int) (a i : Nat) (R : List Pc) (ha : a ≤ s.size) (hz : s.size ≤ 1024) (hb : firstBad (s.extract a (nextI s.data.toList a)) = none) (hi : i ≤ X.length) :
    (∃ k, i ≤ k ∧ k ≤ X.length ∧ cutsTo (X.map (fo fold)) R k ∧ ∃ P ∈ okPats fold [s.extract a (nextI s.data.toList a)], lang false P (piece (X.map (fo fold)) i k) = true) ↔
      cutsTo (X.map (fo fold)) ((ahead s.data.toList a).map (pcOf fold vs) ++ R) i := by
  have hl : s.data.toList.length = s.size := Array.length_toList
  have hn := nextI_le s.data.toList a (by rw [hl]; exact ha)
  have hC : (X.map (fo fold)).length = X.length := List.length_map _
  rw [pats_one fold hb (by rw [ByteArray.size_extract]; omega)]
  unfold ahead
  by_cases e : nextI s.data.toList a = a
  · rw [if_pos e, e]
    have h0 : all (s.extract a a) = [] := by
      unfold chars.all
      refine from_end _ _ _ ?_
      rw [ByteArray.size_extract]
      omega
    rw [h0]
    show _ ↔ cutsTo (X.map (fo fold)) R i
    constructor
    · rintro ⟨k, h1, h2, h3, P, hP, h4⟩
      obtain rfl := List.mem_singleton.1 hP
      rw [show ([] : List Int).map (fo fold) = [] from rfl, lang_nil, piece_empty _ i k h1 (by rw [hC]; exact h2), decide_eq_true_eq] at h4
      exact h4 ▸ h3
    · intro h
      refine ⟨i, Nat.le_refl _, hi, h, _, List.mem_singleton.2 rfl, ?_⟩
      rw [show ([] : List Int).map (fo fold) = [] from rfl, lang_nil, piece_same]
      rfl
  · rw [if_neg e]
    have hp : pcOf fold vs (a, ⟨0, (s.data.toList.drop a).take (leadN (s.data.toList.drop a)), []⟩) = .pat ((all (s.extract a (nextI s.data.toList a))).map (fo fold)) := by
      unfold pcOf
      rw [if_neg (show ¬ (0 = 1) by decide)]
      congr 3
      rw [ext_T]
      unfold Pt.tx nextI
      rw [Nat.add_sub_cancel_left]
      congr 1
      refine List.take_of_length_le ?_
      rw [List.length_take, List.length_drop, hl]
      omega
    show _ ↔ cutsTo (X.map (fo fold)) (pcOf fold vs (a, ⟨0, (s.data.toList.drop a).take (leadN (s.data.toList.drop a)), []⟩) :: R) i
    rw [hp]
    show _ ↔ ∃ b, i ≤ b ∧ b ≤ (X.map (fo fold)).length ∧ lang false ((all (s.extract a (nextI s.data.toList a))).map (fo fold)) (piece (X.map (fo fold)) i b) = true ∧ cutsTo (X.map (fo fold)) R b
    rw [hC]
    constructor
    · rintro ⟨k, h1, h2, h3, P, hP, h4⟩
      obtain rfl := List.mem_singleton.1 hP
      exact ⟨k, h1, h2, h4, h3⟩
    · rintro ⟨k, h1, h2, h4, h3⟩
      exact ⟨k, h1, h2, h3, _, List.mem_singleton.2 rfl, h4⟩
theorem rcIdx_some {nm : List UInt8} {k : Nat} (h : rcIdx nm = some k) : k < 8 ∧ classOf nm = some (clAt k) := by
  unfold rcIdx at h
  obtain ⟨h1, h2, h3⟩ := List.findIdx?_eq_some_iff_getElem.1 h
  have g : ∀ j (hj : j < clTab.length), clTab.getD j noCl = clTab[j] := fun j hj => by rw [List.getD_eq_getElem?_getD, List.getElem?_eq_getElem hj]; rfl
  refine ⟨h1, find_from nm clTab k (fun j hj => ?_) h1 ?_⟩
  · rw [g j (by omega)]
    intro q
    exact h3 j hj (decide_eq_true q)
  · rw [g k h1]
    exact of_decide_eq_true h2
theorem rcIdx_none {nm : List UInt8} (h : rcIdx nm = none) : classOf nm = none := by
  have o := rcIdx_own nm
  rw [h] at o
  unfold isOwn at o
  cases q : classOf nm with
  | none => rfl
  | some c => rw [q] at o; cases o
theorem cls_size : ∀ k, k < 8 → (rcSize (some k)).toNat = (clAt k).size ∧ ((clAt k).size = 1 ∨ (clAt k).size = 2)
  | 0, _ | 1, _ | 2, _ | 3, _ | 4, _ | 5, _ | 6, _ | 7, _ => by decide
  | n + 8, h => by omega
theorem map_get (f : Int → Int) (X : List Int) (j : Nat) (h : j < X.length) : (X.map f).getD j 0 = f (X.getD j 0) := by
  rw [List.getD_eq_getElem?_getD, List.getElem?_map, List.getElem?_eq_getElem h, List.getD_eq_getElem?_getD, List.getElem?_eq_getElem h]
  rfl
/-- A class, so many characters from a place on. -/
theorem among_piece (fold : Bool) (X : List Int) (h0 : ∀ j, 0 ≤ X.getD j 0) (k a z : Nat) (hk : k < 8) (hz : z = 1 ∨ z = 2) (h : a + z ≤ X.length) :
    (piece (X.map (fo fold)) a (a + z)).all (inSpans (spansOf fold (clAt k)).data.toList) = amongB fold X a z (rcAt k) := by
  have hC : (X.map (fo fold)).length = X.length := List.length_map _
  have key : ∀ j, j < X.length → inSpans (spansOf fold (clAt k)).data.toList ((X.map (fo fold)).getD j 0) = inCls fold (rcAt k) (X.getD j 0) := fun j hj => by
    rw [map_get _ X j hj, cls_same fold k hk _ (h0 j)]
  unfold amongB
  rcases hz with rfl | rfl
  · rw [piece_next _ a (a + 1) (by omega) (by rw [hC]; exact h), piece_same, List.all_cons, List.all_nil, key a (by omega)]
    show _ = ([0] : List Nat).all _
    rw [List.all_cons, List.all_nil, Nat.add_zero]
  · rw [piece_next _ a (a + 2) (by omega) (by rw [hC]; exact h), piece_next _ (a + 1) (a + 2) (by omega) (by rw [hC]; exact h), piece_same, List.all_cons, List.all_cons, List.all_nil, key a (by omega), key (a + 1) (by omega)]
    show _ = ([0, 1] : List Nat).all _
    rw [List.all_cons, List.all_cons, List.all_nil]
    rfl
/-- A variable, ahead of what is behind it. -/
theorem var_iff (fold : Bool) (vs : List Vr) {X : List Int} (hr : ∀ j, j < X.length → right (X.getD j 0) = true) (h0 : ∀ j, 0 ≤ X.getD j 0) (nm : List UInt8) (kn : knownV vs nm = true) (B : Nat → Bool) (R : List Pc) (hB : ∀ b, b ≤ X.length → (B b = true ↔ cutsTo (X.map (fo fold)) R b)) (x : Nat × Pt) (hx : x.2.kind = 1) (hn : x.2.name = nm) (k : Nat) (hk : k ≤ X.length) :
    varR fold vs X nm B k = true ↔ cutsTo (X.map (fo fold)) (pcOf fold vs x :: R) k := by
  have hC : (X.map (fo fold)).length = X.length := List.length_map _
  have hp : pcOf fold vs x = varPc fold vs nm := by unfold pcOf; rw [if_pos hx, hn]
  rw [hp]
  show _ ↔ ∃ b, k ≤ b ∧ b ≤ (X.map (fo fold)).length ∧ (varPc fold vs nm).has (piece (X.map (fo fold)) k b) ∧ cutsTo (X.map (fo fold)) R b
  rw [hC]
  unfold varR varPc
  cases hc : rcIdx nm with
  | some q =>
    obtain ⟨q1, q2⟩ := rcIdx_some hc
    obtain ⟨q3, q4⟩ := cls_size q q1
    rw [q2]
    show (decide (k + (rcSize (some q)).toNat ≤ X.length) && (B (k + (rcSize (some q)).toNat) && amongB fold X k (rcSize (some q)).toNat (rcAt q))) = true ↔ ∃ b, k ≤ b ∧ b ≤ X.length ∧ ((piece (X.map (fo fold)) k b).length = (clAt q).size ∧ (piece (X.map (fo fold)) k b).all (inSpans (spansOf fold (clAt q)).data.toList) = true) ∧ cutsTo (X.map (fo fold)) R b
    rw [q3]
    generalize (clAt q).size = z at *
    rw [Bool.and_eq_true, Bool.and_eq_true, decide_eq_true_eq]
    constructor
    · rintro ⟨h1, h2, h3⟩
      refine ⟨k + z, Nat.le_add_right _ _, h1, ⟨?_, ?_⟩, (hB _ h1).1 h2⟩
      · rw [piece_length _ k _ (Nat.le_add_right _ _) (by rw [hC]; exact h1), Nat.add_sub_cancel_left]
      · rw [among_piece fold X h0 q k z q1 q4 h1]; exact h3
    · rintro ⟨b, h1, h2, ⟨h3, h4⟩, h5⟩
      rw [piece_length _ k b h1 (by rw [hC]; exact h2)] at h3
      obtain rfl : b = k + z := by omega
      rw [among_piece fold X h0 q k z q1 q4 h2] at h4
      exact ⟨h2, (hB _ h2).2 h5, h4⟩
  | none =>
    rw [rcIdx_none hc]
    have hx : ∃ x, findVr vs (T nm) = some x := by
      have o := rcIdx_own nm
      rw [hc] at o
      unfold knownV at kn
      rw [← o] at kn
      cases q : findVr vs (T nm) with
      | some x => exact ⟨x, rfl⟩
      | none => rw [q] at kn; cases kn
    obtain ⟨x, hx⟩ := hx
    rw [hx]
    show valF fold x.vals X B k = true ↔ ∃ b, k ≤ b ∧ b ≤ X.length ∧ (∃ P ∈ okPats fold x.vals, lang false P (piece (X.map (fo fold)) k b) = true) ∧ cutsTo (X.map (fo fold)) R b
    rw [val_iff fold x.vals hr B k]
    constructor
    · rintro ⟨b, h1, h2, h3, h4⟩
      exact ⟨b, h1, h2, h4, (hB b h2).1 h3⟩
    · rintro ⟨b, h1, h2, h4, h3⟩
      exact ⟨b, h1, h2, (hB b h2).2 h3, h4⟩
theorem get_of_drop (s : ByteArray) (i : Nat) (c : UInt8) (r : List UInt8) (h : s.data.toList.drop i = c :: r) : s.get! i = c := by
  have h1 : s.data.toList[i]? = some c := by rw [← List.head?_drop, h]; rfl
  show s.data[i]! = c
  rw [← Array.getElem!_toList, List.getElem!_eq_getElem?_getD, h1]
  rfl
theorem begin_byte {s : ByteArray} {i : Nat} (h : begin2 (s.data.toList.drop i) = true) : (s.get! i).toNat < 128 := by
  cases q : s.data.toList.drop i with
  | nil => rw [q] at h; cases h
  | cons c r =>
    rw [get_of_drop s i c r q]
    rw [q] at h
    cases r with
    | nil => cases h
    | cons d r =>
      unfold begin2 at h
      simp at h
      rw [h.1]
      decide
theorem end_byte {s : ByteArray} {i : Nat} (h : nextJ s.data.toList i < s.data.toList.length) : (s.get! (nextJ s.data.toList i)).toNat < 128 := by
  unfold nextJ at h ⊢
  have hh : endN (s.data.toList.drop (i + 2)) < (s.data.toList.drop (i + 2)).length := by rw [List.length_drop]; omega
  have hd : ∀ l : List UInt8, endN l < l.length → ∃ r, l.drop (endN l) = 41 :: r := by
    intro l
    induction l with
    | nil => intro h; cases h
    | cons c r ih =>
      intro h
      by_cases e : c = 41
      · subst e
        have : endN (41 :: r) = 0 := by unfold endN; rw [List.takeWhile_cons_of_neg (by decide)]; rfl
        rw [this]
        exact ⟨r, rfl⟩
      · have : endN (c :: r) = endN r + 1 := by unfold endN; rw [List.takeWhile_cons_of_pos (by simpa using e)]; rfl
        rw [this] at h ⊢
        rw [List.drop_succ_cons]
        rw [List.length_cons] at h
        exact ih (by omega)
  obtain ⟨r, hr⟩ := hd _ hh
  rw [List.drop_drop] at hr
  rw [get_of_drop s _ 41 r hr]
  decide
/-- From any place of a right pattern on. -/
theorem doc_iff (fold : Bool) (s : ByteArray) (vs : List Vr) {X : List Int} (hr : ∀ j, j < X.length → right (X.getD j 0) = true) (h0 : ∀ j, 0 ≤ X.getD j 0) (hz : s.size ≤ 1024) :
    ∀ (g a : Nat), s.size < a + g → a ≤ s.size → firstBad (s.extract a s.size) = none → (partsBad (knownV vs) (Pf s.data.toList a)).1 = 0 → ∀ i, i ≤ X.length →
    (docR fold vs X s (fun k => decide (k = X.length)) g a i = true ↔ cutsTo (X.map (fo fold)) ((Pf s.data.toList a).map (pcOf fold vs)) i) := by
  intro g
  induction g with
  | zero => intro a h1 h2; omega
  | succ g ih =>
    intro a hg ha hf hB i hi
    have hl : s.data.toList.length = s.size := Array.length_toList
    have hal : a ≤ s.data.toList.length := by rw [hl]; exact ha
    have hC : (X.map (fo fold)).length = X.length := List.length_map _
    by_cases hn : nextI s.data.toList a < s.data.toList.length
    · have hj : nextJ s.data.toList (nextI s.data.toList a) < s.data.toList.length := by
        rcases Nat.lt_or_ge (nextJ s.data.toList (nextI s.data.toList a)) s.data.toList.length with q | q
        · exact q
        · rw [bad_open (knownV vs) hal hn (by omega)] at hB
          exact absurd hB (show ¬ ((10 : Int) = 0) by decide)
      rw [bad_var (knownV vs) hal hn hj] at hB
      have hkn : knownV vs (nameAt s.data.toList (nextI s.data.toList a)) = true := by
        cases q : knownV vs (nameAt s.data.toList (nextI s.data.toList a)) with
        | true => rfl
        | false => rw [q, if_neg (by decide)] at hB; exact absurd hB (show ¬ ((30 : Int) = 0) by decide)
      rw [hkn, if_pos rfl] at hB
      have q0 : a ≤ nextI s.data.toList a := Nat.le_add_right _ _
      have q1 : nextI s.data.toList a + 2 ≤ nextJ s.data.toList (nextI s.data.toList a) := Nat.le_add_right _ _
      obtain ⟨f1, f2⟩ := right_split q0 (by omega) (begin_byte (begin_of_next hn (nextI_again hn))) hf
      obtain ⟨-, f3⟩ := right_split (by omega : nextI s.data.toList a ≤ nextJ s.data.toList (nextI s.data.toList a)) (by omega) (end_byte hj) f2
      have f4 := right_next (by omega : nextJ s.data.toList (nextI s.data.toList a) < s.size) (end_byte hj) f3
      have D : docR fold vs X s (fun k => decide (k = X.length)) (g + 1) a = valF fold [s.extract a (nextI s.data.toList a)] X (varR fold vs X (nameAt s.data.toList (nextI s.data.toList a)) (docR fold vs X s (fun k => decide (k = X.length)) g (nextJ s.data.toList (nextI s.data.toList a) + 1))) := by
        show (if _ then _ else _) = _
        rw [if_pos hn]
      have R := ih (nextJ s.data.toList (nextI s.data.toList a) + 1) (by omega) (by omega) f4 hB
      rw [D, val_iff fold _ hr, Pf_ahead hal, Pf_var hn (nextI_again hn) hj, List.map_append, List.map_cons, ← ahead_iff fold vs s X a i _ ha hz f1 hi]
      have V := fun k hk => var_iff fold vs hr h0 (nameAt s.data.toList (nextI s.data.toList a)) hkn _ _ R (nextI s.data.toList a, ⟨1, (s.data.toList.drop (nextI s.data.toList a)).take (endN (s.data.toList.drop (nextI s.data.toList a + 2)) + 3), nameAt s.data.toList (nextI s.data.toList a)⟩) rfl rfl k hk
      constructor
      · rintro ⟨k, h1, h2, h3, h4⟩
        exact ⟨k, h1, h2, (V k h2).1 h3, h4⟩
      · rintro ⟨k, h1, h2, h3, h4⟩
        exact ⟨k, h1, h2, (V k h2).2 h3, h4⟩
    · have D : docR fold vs X s (fun k => decide (k = X.length)) (g + 1) a = valF fold [s.extract a s.size] X (fun k => decide (k = X.length)) := by
        show (if _ then _ else _) = _
        rw [if_neg hn]
      have e : nextI s.data.toList a = s.size := by have := nextI_le s.data.toList a hal; omega
      have A := ahead_iff fold vs s X a i [] ha hz (by rw [e]; exact hf) hi
      rw [e] at A
      rw [D, val_iff fold _ hr, Pf_ahead hal, e, ← hl, Pf_end, List.map_append, List.map_nil, hl, ← A]
      constructor
      · rintro ⟨k, h1, h2, h3, h4⟩
        exact ⟨k, h1, h2, by have h5 : k = X.length := of_decide_eq_true h3; exact h5.trans hC.symm, h4⟩
      · rintro ⟨k, h1, h2, h3, h4⟩
        exact ⟨k, h1, h2, decide_eq_true ((show k = (X.map (fo fold)).length from h3).trans hC), h4⟩
/-- **The document's answer is the program's.** -/
theorem doc_fits (fold : Bool) (p s : ByteArray) (vs : List Vr) (hz : p.size ≤ 1024) (hp : firstBad p = none) (hB : (partsBad (knownV vs) (partsOf p.data.toList)).1 = 0) (hr : ∀ j, j < (all s).length → right ((all s).getD j 0) = true) (h0 : ∀ j, 0 ≤ (all s).getD j 0) :
    docR fold vs (all s) p (fun k => decide (k = (all s).length)) (p.size + 1) 0 0 = fits fold p.data.toList vs s := by
  have h := doc_iff fold p vs hr h0 hz (p.size + 1) 0 (by omega) (Nat.zero_le _) (by rw [ByteArray.extract_zero_size]; exact hp) hB 0 (Nat.zero_le _)
  rw [Bool.eq_iff_iff, h]
  unfold fits
  rw [List.contains_iff_mem, ends_mem _ (good_zero _)]
  constructor
  · intro q; exact ⟨0, List.mem_singleton.2 rfl, q⟩
  · rintro ⟨a, ha, q⟩
    obtain rfl := List.mem_singleton.1 ha
    exact q
end Go.Proofs.YtoilalffhmjhdaaGreatDoor.subst
/- The document's own Match, of any pattern, any variables and any text: it answers as subst.Match does. -/
set_option linter.unusedSimpArgs false
set_option linter.unusedVariables false
namespace Go.Proofs.YtoilalffhmjhdaaGreatDoor.subst
open Go.RowKit Go.Proofs.YtoilalffhmjhdaaGreatDoor.errs Go.Proofs.YtoilalffhmjhdaaGreatDoor.rows Go.Proofs.YtoilalffhmjhdaaGreatDoor.utf Go.Proofs.YtoilalffhmjhdaaGreatDoor.umath Go.Proofs.YtoilalffhmjhdaaGreatDoor.text Go.Proofs.YtoilalffhmjhdaaGreatDoor.ref Go.Proofs.YtoilalffhmjhdaaGreatDoor.glref Go.Proofs.YtoilalffhmjhdaaGreatDoor.gmath Go.Proofs.YtoilalffhmjhdaaGreatDoor.chars

theorem numsF_own {w : World} {B : Nat} {v : Value} {X : List Int} (h : w.ownsRow B 3 1 v X.length (ints X)) : NumsF w v X := by
  rcases h.2 with ⟨rfl, hn⟩ | ⟨g, cap, cur, rfl, h1, h2, h3, h4, h5, h6⟩
  · exact .inl ⟨rfl, List.length_eq_zero_iff.1 hn⟩
  · refine .inr ⟨g, 0, cap, rfl, h3, by unfold maxLen at h4; omega, fun j hj => ?_⟩
    have := h.cellAt j (by rw [Nat.mul_one]; exact hj)
    rw [Nat.zero_add, this]
    simp [ints, List.getD_eq_getElem?_getD, hj]
theorem chars_own {s : ByteArray} (hf : firstBad s = none) (hz : s.size ≤ 1000000) (v : Value) (W : World) (h : Sl W v s) :
    Calls Tryz.prog 35 #[v] W fun e w' => ∃ v', e = .returned (.tuple #[v', .int .i64 (-1)]) ∧ Hid (NumsF w' v' (all s) ∧ Below W.heap.size W w') := by
  have C := chars_ref s v W h hz
  rw [hf] at C
  have C : Calls Tryz.prog 35 #[v] W fun e w' => ∃ v', e = .returned (.tuple #[v', .int .i64 (-1)]) ∧ Aside (w'.ownsRow W.heap.size 3 1 v' (all s).length (ints (all s)) ∧ Below W.heap.size W w') := C
  exact C.mono fun e w' ⟨v', h1, h2⟩ => ⟨v', h1, numsF_own h2.out.1, h2.out.2⟩
theorem right_all {s : ByteArray} (hf : firstBad s = none) : ∀ j, j < (all s).length → right ((all s).getD j 0) = true := fun j hj => by
  obtain ⟨q, -, -⟩ := unput s s.size 0 (by omega) (Nat.zero_le _) hf
  refine q _ ?_
  rw [List.getD_eq_getElem?_getD, List.getElem?_eq_getElem hj]
  exact List.getElem_mem _

set_option maxRecDepth 100000 in
set_option maxHeartbeats 4000000 in
theorem rsmatch_wrong (fold : Bool) (p s : ByteArray) (vs : List Vr) (vv : Value) (w : World) (hp : p.size ≤ 1000000) (hs : s.size ≤ 1000000) (hv : VarsIn w vv vs) (hvn : vs.length ≤ 1000000) (hc : ¬ (checkS p.data.toList vs).1 = 0) :
    Calls Tryz.prog 15 #[.string p, vv, .string s, .bool fold] w fun e w' => e = .returned (.bool false) ∧ Below w.heap.size w w' := by
  have CK := rscheck_any p vs vv w hp hv hvn
  obtain ⟨va, vc, rfl⟩ := hv.form
  obtain ⟨k, hk⟩ : ∃ k, (checkS p.data.toList vs).1 = k := ⟨_, rfl⟩
  rw [hk] at CK hc
  have hk0 : (k != 0) = true := bne_iff_ne.2 hc
  generalize (checkS p.data.toList vs).2 = a at CK
  have hk1 : ¬ k = 0 := hc
  generalize vs.length = m at *
  clear hk hc hv hvn
  go_enter Tryz.func15, Tryz.ntmps15
  go_wp2_with fail
  refine CK.mono ?_; rintro e w1 ⟨rfl, hb1⟩
  obtain ⟨v1, W1, hv1, hs1⟩ := bytes_new s hs w1
  have C1 := chars_some s v1 W1 hs1.out.1 hs
  have hv1 := hv1.out
  have K1 : Aside (Keeps w W1) := Keeps.step hb1 hs1.out.2
  clear hs1 hb1 CK
  go_wp2_with fail
  refine C1.mono ?_; rintro e w2 ⟨x2, k2, rfl, hb2⟩
  have K2 : Aside (Keeps w w2) := K1.out.step hb2
  clear hb2 K1 C1 hv1
  go_wp2_with fail
  go_ret
  exact ⟨rfl, K2.out⟩

set_option maxRecDepth 100000 in
set_option maxHeartbeats 4000000 in
theorem rsmatch_text (fold : Bool) (p s : ByteArray) (vs : List Vr) (vv : Value) (w : World) (hp : p.size ≤ 1000000) (hs : s.size ≤ 1000000) (hv : VarsIn w vv vs) (hvn : vs.length ≤ 1000000) (hc : (checkS p.data.toList vs).1 = 0) {i : Nat} (hf : firstBad s = some i) :
    Calls Tryz.prog 15 #[.string p, vv, .string s, .bool fold] w fun e w' => e = .returned (.bool false) ∧ Below w.heap.size w w' := by
  have CK := rscheck_any p vs vv w hp hv hvn
  obtain ⟨va, vc, rfl⟩ := hv.form
  rw [hc] at CK
  generalize (checkS p.data.toList vs).2 = a at CK
  generalize vs.length = m at *
  clear hc hv hvn
  go_enter Tryz.func15, Tryz.ntmps15
  go_wp2_with fail
  refine CK.mono ?_; rintro e w1 ⟨rfl, hb1⟩
  obtain ⟨v1, W1, hv1, hs1⟩ := bytes_new s hs w1
  have C1 := chars_wrong hf v1 W1 hs1.out.1 hs
  have hv1 := hv1.out
  have K1 : Aside (Keeps w W1) := Keeps.step hb1 hs1.out.2
  have y0 : (0 : Int) ≤ (i : Int) := by omega
  clear hs1 hb1 CK hf
  go_wp2_with fail
  refine C1.mono ?_; rintro e w2 ⟨x2, rfl, hb2⟩
  have K2 : Aside (Keeps w w2) := K1.out.step hb2
  clear hb2 K1 C1 hv1
  go_wp2_with fail
  go_ret
  exact ⟨rfl, K2.out⟩

set_option maxRecDepth 100000 in
set_option maxHeartbeats 4000000 in
theorem rsmatch_right (fold : Bool) (p s : ByteArray) (vs : List Vr) (vv : Value) (w : World) (hp : p.size ≤ 1000000) (hs : s.size ≤ 1000) (hfew : Few vs) (hv : VarsIn w vv vs) (hc : (checkS p.data.toList vs).1 = 0) (hB : (partsBad (knownV vs) (Pf p.data.toList 0)).1 = 0) (hf : firstBad s = none) :
    Calls Tryz.prog 15 #[.string p, vv, .string s, .bool fold] w fun e w' => e = .returned (.bool (docR fold vs (all s) p (fun k => decide (k = (all s).length)) (p.size + 1) 0 0)) ∧ Below w.heap.size w w' := by
  have CK := rscheck_any p vs vv w hp hv (by have := hfew.1; omega)
  have hX : (all s).length ≤ 1000 := Nat.le_trans (all_le s) hs
  have RR := Lib.hid fun (cv : Value) (eb : Nat) (W : World) (hI : RIn W vv cv eb vs (all s) (fun k => decide (k = (all s).length))) => rrest_any fold p vs (all s) (fun k => decide (k = (all s).length)) vv cv eb hp hfew hX (right_all hf) (all_ge s) (p.size + 1) 0 W (by omega) (Nat.zero_le _) hI hB
  have HS := Lib.hid fun v w hv => chars_own hf (by omega) v w hv
  have HV := Lib.hid hv
  obtain ⟨va, vc, rfl⟩ := hv.form
  rw [hc] at CK
  generalize (checkS p.data.toList vs).2 = a at CK
  obtain ⟨n, hn⟩ : ∃ n, Hid ((all s).length = n) := ⟨_, rfl⟩
  have hnn : n ≤ 1000 := by rw [← hn.out]; exact hX
  generalize docR fold vs (all s) p (fun k => decide (k = (all s).length)) (p.size + 1) 0 = F at *
  obtain ⟨m, hm⟩ : ∃ m, Hid (vs.length = m) := ⟨_, rfl⟩
  rw [hm.out] at CK RR HV ⊢
  obtain ⟨q, hq⟩ : ∃ q, Hid (F 0 = q) := ⟨_, rfl⟩
  rw [hq.out]
  rw [hn.out] at RR
  have mk : ∀ W, (Instr.makeSlice 75 (.int .i64 ((n : Int) + 1)) (.int .i64 ((n : Int) + 1))).run Tryz.prog W = .ok (.slice (some ⟨W.heap.size, 0, none⟩) (n + 1) (n + 1)) (made W (n + 1)) := fun W => by
    have := run_made (n + 1) (by omega) W
    rwa [show ((n + 1 : Nat) : Int) = (n : Int) + 1 by omega] at this
  have hs' : s.size ≤ 1000000 := by omega
  clear hc hB hf hv hX hfew
  go_enter Tryz.func15, Tryz.ntmps15
  go_wp2_with fail
  refine CK.mono ?_; rintro e w1 ⟨rfl, hb1⟩
  obtain ⟨v1, W1, hv1, hs1⟩ := bytes_new s hs' w1
  have C1 := HS.out v1 W1 hs1.out.1
  have hv1 := hv1.out
  have K1 : Aside (Keeps w W1) := Keeps.step hb1 hs1.out.2
  clear hs1 hb1 CK HS
  go_wp2_with fail
  refine C1.mono ?_; rintro e w2 ⟨x2, rfl, h2⟩
  have K2 : Aside (Keeps w w2 ∧ NumsF w2 x2 (all s)) := ⟨K1.out.step h2.out.2, h2.out.1⟩
  obtain ⟨al, cl, rfl, hl1, hl2⟩ := h2.out.1.form
  rw [hn.out] at K2 hl1 ⊢
  clear h2 K1 C1 hv1
  have R5 : Row (made w2 (n + 1)) w2.heap.size (n + 1) (fun _ => false) := made_row _ _
  have B5 : Below w2.heap.size w2 (made w2 (n + 1)) := made_below _ _
  obtain ⟨e0, e1⟩ := R5 n (by omega)
  obtain ⟨W6, hW6⟩ : ∃ W6, W6 = (made w2 (n + 1)).setCell ⟨w2.heap.size, n, none⟩ (.bool true) := ⟨_, rfl⟩
  have B6 : Below w2.heap.size w2 W6 := by rw [hW6]; exact B5.setCell (p := ⟨w2.heap.size, n, none⟩) (Nat.le_refl _) _
  have K6 : Aside (Keeps w W6) := K2.out.1.step B6
  have R6 : Row W6 w2.heap.size (n + 1) (fun k => decide (k = n)) := by
    rw [hW6]
    refine (R5.set (by omega) true).congr fun k hk => ?_
    by_cases e : k = n
    · rw [if_pos e, decide_eq_true e]
    · rw [if_neg e, decide_eq_false e]
  have RC := RR.out (.slice al n cl) w2.heap.size W6 ⟨HV.out.below K6.out, K2.out.2.below B6, by rw [hn.out]; exact R6⟩
  rw [show ((0 : Nat) : Int) = 0 from rfl] at RC
  have HW6 := Lib.hid hW6
  have z0 : (n : Int) ≤ 1000 := by omega
  clear B5 B6 R5 R6 RR HV K2 hW6
  go_wp2_with fail
  rw [← HW6.out]
  refine RC.mono ?_; rintro e w7 ⟨b7, rfl, h7⟩
  obtain ⟨c0, -⟩ := h7.out.1 0 (by omega)
  have K7 : Aside (Keeps w w7) := K6.out.step h7.out.2
  clear h7 RC e0 e1 HW6
  rw [hq.out] at c0
  go_wp2_with fail
  go_ret
  exact ⟨rfl, K7.out⟩

/-- **The document's Match answers what subst.Match answers.** -/
theorem rsmatch_any (fold : Bool) (p s : ByteArray) (vs : List Vr) (vv : Value) (w : World) (hp : p.size ≤ 1000) (hs : s.size ≤ 1000) (hfew : Few vs) (hv : VarsIn w vv vs) :
    Calls Tryz.prog 15 #[.string p, vv, .string s, .bool fold] w fun e w' => e = .returned (.bool (matchS fold p.data.toList vs s)) ∧ Below w.heap.size w w' := by
  have hvn : vs.length ≤ 1000000 := by have := hfew.1; omega
  unfold matchS
  by_cases hc : (checkS p.data.toList vs).1 = 0
  · rw [decide_eq_true hc, Bool.true_and]
    cases hf : firstBad s with
    | some i => exact rsmatch_text fold p s vs vv w (by omega) (by omega) hv hvn hc hf
    | none =>
      have h1 : (checkOf p).1 = 0 := by
        by_cases q : (checkOf (T p.data.toList)).1 = 0
        · exact q
        · unfold checkS at hc; rw [if_neg q] at hc; exact absurd hc q
      have h2 : (partsBad (knownV vs) (partsOf p.data.toList)).1 = 0 := by
        unfold checkS at hc; rw [if_pos (show (checkOf (T p.data.toList)).1 = 0 from h1)] at hc; exact hc
      have h3 : firstBad p = none := by
        cases q : firstBad p with
        | none => rfl
        | some i =>
          unfold checkOf at h1
          rw [if_neg (by omega), q] at h1
          exact absurd h1 (show ¬ ((12 : Int) = 0) by decide)
      have R := rsmatch_right fold p s vs vv w (by omega) hs hfew hv hc h2 hf
      rw [doc_fits fold p s vs (by omega) h3 h2 (right_all hf) (all_ge s)] at R
      exact R
  · rw [decide_eq_false hc]
    exact rsmatch_wrong fold p s vs vv w (by omega) (by omega) hv hvn hc
end Go.Proofs.YtoilalffhmjhdaaGreatDoor.subst
