/- The document's parameter at a place, its value. -/
import Derived.Test.YtelofhplpeeplaaDoorMdParam
import Derived.Deep.RegionWith
set_option linter.unusedSimpArgs false
set_option linter.unusedVariables false
namespace Go.Proofs.YtelofhplpeeplaaDoor.media
open Go.RowKit Go.Proofs.YtelofhplpeeplaaDoor.errs Go.Proofs.YtelofhplpeeplaaDoor.gmath Go.Proofs.YtelofhplpeeplaaDoor.glref

/-- A block of three cells that was laid over what stood. -/
structure Box3 (base : Nat) (w' : World) (b : Nat) (x y z : Value) : Prop where
  c0 : w'.cell? ⟨b, 0, none⟩ = some x
  c1 : w'.cell? ⟨b, 1, none⟩ = some y
  c2 : w'.cell? ⟨b, 2, none⟩ = some z
  z0 : w'.frozen? ⟨b, 0, none⟩ = false
  z1 : w'.frozen? ⟨b, 1, none⟩ = false
  z2 : w'.frozen? ⟨b, 2, none⟩ = false
theorem Box3.below {base b n : Nat} {w w' : World} {x y z : Value} (h : Box3 base w b x y z) (k : Below n w w') (hb : b < n) : Box3 base w' b x y z :=
  ⟨(k.cell (p := ⟨b, 0, none⟩) hb).trans h.c0, (k.cell (p := ⟨b, 1, none⟩) hb).trans h.c1, (k.cell (p := ⟨b, 2, none⟩) hb).trans h.c2,
   (k.frozen (p := ⟨b, 0, none⟩) hb).trans h.z0, (k.frozen (p := ⟨b, 1, none⟩) hb).trans h.z1, (k.frozen (p := ⟨b, 2, none⟩) hb).trans h.z2⟩

set_option maxRecDepth 100000 in
set_option maxHeartbeats 1000000 in
theorem rparam_tok (s : ByteArray) (i : Nat) (hs : s.size ≤ 1000000) (hi : i < s.size) (h : s.get! i = 59) (hn : (1 ≤ nameN s i ∧ nameN s i ≤ 100) ∧ (nameAt s i + nameN s i < s.size ∧ s.get! (nameAt s i + nameN s i) = 61))
    (hq : ¬ (nameAt s i + nameN s i + 1 < s.size ∧ s.get! (nameAt s i + nameN s i + 1) = 34)) (w : World) :
    Calls Tryd.prog 58 #[.string s, .int .i64 i] w fun e w' => e = .returned (.tuple #[(parRes (parOf s i)).1, .int .i64 (parRes (parOf s i)).2]) ∧ Below w.heap.size w w' := by
  have PO : Hid (parOf s i = if 1 ≤ spanN inTok (s.data.toList.drop (nameAt s i + nameN s i + 1)) ∧ spanN inTok (s.data.toList.drop (nameAt s i + nameN s i + 1)) ≤ 100 then
      some ((lowS (s.extract (nameAt s i) (nameAt s i + nameN s i)), s.extract (nameAt s i + nameN s i + 1) (nameAt s i + nameN s i + 1 + spanN inTok (s.data.toList.drop (nameAt s i + nameN s i + 1)))),
        nameAt s i + nameN s i + 1 + spanN inTok (s.data.toList.drop (nameAt s i + nameN s i + 1)) + spanN isBl (s.data.toList.drop (nameAt s i + nameN s i + 1 + spanN inTok (s.data.toList.drop (nameAt s i + nameN s i + 1))))) else none) := by
    show _ = _
    unfold parOf valOf
    rw [if_pos ⟨hi, h⟩, if_pos hn, if_neg hq]
    by_cases hm : 1 ≤ spanN inTok (s.data.toList.drop (nameAt s i + nameN s i + 1)) ∧ spanN inTok (s.data.toList.drop (nameAt s i + nameN s i + 1)) ≤ 100
    · rw [if_pos hm, if_pos hm]
    · rw [if_neg hm, if_neg hm]
  have y1 : (0 : Int) ≤ (i : Int) := by omega
  have y0 : ¬ (s.size : Int) ≤ (i : Int) := by omega
  have y2 : (i : Int) < (s.size : Int) := by omega
  have ix := byte_at s i hi
  have b3 : (((s.get! i).toNat : Int) != 59) = false := by rw [h]; rfl
  have CB := rblank_next s i hs hi
  have hle : nameAt s i ≤ s.size := span_in s isBl (i + 1) (by omega)
  have CT := fun w => rtok_any s (nameAt s i) hs hle w
  have hln : nameAt s i + nameN s i ≤ s.size := span_in s inTok _ hle
  have ET : tokAt s (nameAt s i) = if 1 ≤ nameN s i ∧ nameN s i ≤ 100 then ((nameAt s i + nameN s i : Nat) : Int) else -1 := rfl
  rw [ET, if_pos hn.1] at CT
  have ib := byte_at s _ hn.2.1
  have b4 : (((s.get! (nameAt s i + nameN s i)).toNat : Int) != 61) = false := by rw [hn.2.2]; rfl
  have h1 := hn.1.1
  have hb := hn.2.1
  clear ET h hn
  generalize nameAt s i = a at *
  generalize nameN s i = n at *
  generalize s.get! i = d at *
  generalize s.get! (a + n) = d2 at *
  obtain ⟨b, HAB⟩ : ∃ b, Hid (a + n = b) := ⟨_, rfl⟩
  have PO := PO.out
  rw [HAB.out] at PO CT hln ib hb hq
  replace PO := Lib.hid PO
  have hab := HAB.out
  have x0 : ¬ (b : Int) < 0 := by omega
  have x1 : (0 : Int) ≤ (b : Int) := by omega
  have x2 : ((b : Int) == (s.size : Int)) = false := beq_eq_false_iff_ne.2 (by omega)
  have x3 : (b : Int) < (s.size : Int) := by omega
  have x4 : (0 : Int) ≤ (a : Int) := by omega
  have sl : ∀ w, (Instr.slice 9 (.string s) (some (.int .i64 a)) (some (.int .i64 b)) none).run Tryd.prog w = .ok (.string (s.extract a b)) w := fun w => by
    rw [run_slice_string_if (h := Tryd.underlying9), if_pos (by omega), if_pos (by omega)]
    rfl
  have CL := fun w => rlower_any (s.extract a b) (by rw [ByteArray.size_extract]; omega) w
  have CT2 := fun w => rtok_any s (b + 1) hs (by omega) w
  have hln2 := span_in s inTok (b + 1) (by omega)
  have ET2 : tokAt s (b + 1) = if 1 ≤ spanN inTok (s.data.toList.drop (b + 1)) ∧ spanN inTok (s.data.toList.drop (b + 1)) ≤ 100 then ((b + 1 + spanN inTok (s.data.toList.drop (b + 1)) : Nat) : Int) else -1 := rfl
  rw [ET2] at CT2
  clear ET2
  rw [show ((b + 1 : Nat) : Int) = (b : Int) + 1 by omega] at CT2
  generalize spanN inTok (s.data.toList.drop (b + 1)) = m at *
  generalize lowS (s.extract a b) = nm at *
  have Q : ((b : Int) + 1 < (s.size : Int) ∧ ∃ e, (∀ w, (Instr.index 9 (.string s) (.int .i64 ((b : Int) + 1))).run Tryd.prog w = .ok (.int .u8 (e : Int)) w) ∧ ((e : Int) == 34) = false) ∨ ¬ (b : Int) + 1 < (s.size : Int) := by
    by_cases hc : b + 1 < s.size
    · refine .inl ⟨by omega, (s.get! (b + 1)).toNat, ?_, ?_⟩
      · have := byte_at s (b + 1) hc
        rwa [show ((b + 1 : Nat) : Int) = (b : Int) + 1 by omega] at this
      · have c1 := eq_byte (s.get! (b + 1)) 34
        simp only [show ((34 : UInt8).toNat : Int) = 34 from rfl] at c1
        rw [c1]
        exact decide_eq_false fun e => hq ⟨hc, e⟩
    · exact .inr (by omega)
  clear hq
  by_cases hm : 1 ≤ m ∧ m ≤ 100
  · rw [if_pos hm] at CT2
    have PO2 : Hid (parOf s i = some ((nm, s.extract (b + 1) (b + 1 + m)), b + 1 + m + spanN isBl (s.data.toList.drop (b + 1 + m)))) := by
      show _ = _
      rw [PO.out, if_pos hm]
    rw [PO2.out]
    have CB2 := fun w => rblank_any s (b + 1 + m) hs hln2 w
    have hlt2 := span_in s isBl (b + 1 + m) hln2
    obtain ⟨t, HT⟩ : ∃ t, Hid (b + 1 + m = t) := ⟨_, rfl⟩
    rw [HT.out] at CT2 CB2 hlt2 hln2 ⊢
    have ht := HT.out
    have z0 : ¬ (t : Int) < 0 := by omega
    have z1 : (0 : Int) ≤ (t : Int) := by omega
    have w3 : ((b : Int) + 1).toNat = b + 1 := by omega
    have sl2 : ∀ w, (Instr.slice 9 (.string s) (some (.int .i64 ((b : Int) + 1))) (some (.int .i64 t)) none).run Tryd.prog w = .ok (.string (s.extract (b + 1) t)) w := fun w => by
      rw [run_slice_string_if (h := Tryd.underlying9), if_pos (by omega), if_pos (by omega), w3]
      rfl
    generalize s.extract (b + 1) t = vl at *
    generalize spanN isBl (s.data.toList.drop t) = u at *
    clear PO PO2 hm ht hab
    rcases Q with ⟨q1, e, q2, q3⟩ | q1
    · go_enter Tryd.func58, Tryd.ntmps58
      go_wp2_with fail
      refine (CB _).mono ?_; rintro e w1 ⟨rfl, rfl⟩
      go_wp2_with fail
      refine (CT _).mono ?_; rintro e w1 ⟨rfl, rfl⟩
      have BX : Aside (Box3 0 (w.alloc (.cells #[.string ⟨#[]⟩, .string ⟨#[]⟩, .bool false] 122)) w.heap.size (.string ⟨#[]⟩) (.string ⟨#[]⟩) (.bool false)) := ⟨by simp, by simp, by simp, by simp, by simp, by simp⟩
      go_wp2_with fail
      refine (CL _).mono ?_; rintro e w1 ⟨rfl, hb1⟩
      have K1 : Aside (Box3 0 w1 w.heap.size (.string ⟨#[]⟩) (.string ⟨#[]⟩) (.bool false) ∧ Below w.heap.size w w1 ∧ w.heap.size < w1.heap.size) := ⟨BX.out.below hb1 (by simp), ((Below.refl _ _).alloc (Nat.le_refl _) _).trans (hb1.mono (by simp)), by have := hb1.size; simp at this; omega⟩
      clear hb1 BX
      go_wp2_with fail
      refine (CT2 _).mono ?_; rintro e w2 ⟨rfl, rfl⟩
      go_wp2_with fail
      have K2 : Aside (Box3 0 (w1.alloc (.cells #[.string nm, .string vl, .bool true] 122)) w1.heap.size (.string nm) (.string vl) (.bool true) ∧ Box3 0 (w1.alloc (.cells #[.string nm, .string vl, .bool true] 122)) w.heap.size (.string ⟨#[]⟩) (.string ⟨#[]⟩) (.bool false) ∧ Below w.heap.size w (w1.alloc (.cells #[.string nm, .string vl, .bool true] 122))) :=
        ⟨⟨by simp, by simp, by simp, by simp, by simp, by simp⟩, K1.out.1.below ((Below.refl _ _).alloc (Nat.le_refl _) _) K1.out.2.2, K1.out.2.1.alloc (by have := K1.out.2.2; omega) _⟩
      clear K1
      generalize w1.alloc (.cells #[.string nm, .string vl, .bool true] 122) = W at *
      generalize w1.heap.size = g7 at *
      have KB : Hid (Below w.heap.size w W) := K2.out.2.2
      obtain ⟨g4, hg4⟩ : ∃ g, Hid (w.heap.size = g) := ⟨_, rfl⟩
      rw [hg4.out] at K2 ⊢
      have P := K2.out.1.below (Below.refl _ W).drew (lt_of_cell K2.out.1.c0)
      have R := K2.out.2.1.below (Below.refl _ W).drew (lt_of_cell K2.out.2.1.c0)
      obtain ⟨p0, p1, p2, -, -, -⟩ := P
      obtain ⟨r0, r1, r2, f0, f1, f2⟩ := R
      obtain ⟨p0', p1', p2', -, -, -⟩ := K2.out.1
      obtain ⟨r0', r1', r2', f0', f1', f2'⟩ := K2.out.2.1
      go_region_with (go_at_call 56; refine (CB2 _).mono ?_; rintro e w5 ⟨rfl, rfl⟩)
      all_goals go_wp2_with fail
      all_goals
        refine bodyPost_ret (v := .tuple #[.agg #[.string nm, .string vl, .bool true], .int .i64 ((t : Int) + (u : Int))]) (by simp [results, Tryd.results58, go_sem, r0, r1, r2, r0', r1', r2']) rfl ⟨by simp [parRes], ?_⟩
        have G : w.heap.size ≤ g4 := Nat.le_of_eq hg4.out
        repeat (first | exact KB.out | refine Below.drew ?_ | refine Below.setCell ?_ G _)
    · go_enter Tryd.func58, Tryd.ntmps58
      go_wp2_with fail
      refine (CB _).mono ?_; rintro e w1 ⟨rfl, rfl⟩
      go_wp2_with fail
      refine (CT _).mono ?_; rintro e w1 ⟨rfl, rfl⟩
      have BX : Aside (Box3 0 (w.alloc (.cells #[.string ⟨#[]⟩, .string ⟨#[]⟩, .bool false] 122)) w.heap.size (.string ⟨#[]⟩) (.string ⟨#[]⟩) (.bool false)) := ⟨by simp, by simp, by simp, by simp, by simp, by simp⟩
      go_wp2_with fail
      refine (CL _).mono ?_; rintro e w1 ⟨rfl, hb1⟩
      have K1 : Aside (Box3 0 w1 w.heap.size (.string ⟨#[]⟩) (.string ⟨#[]⟩) (.bool false) ∧ Below w.heap.size w w1 ∧ w.heap.size < w1.heap.size) := ⟨BX.out.below hb1 (by simp), ((Below.refl _ _).alloc (Nat.le_refl _) _).trans (hb1.mono (by simp)), by have := hb1.size; simp at this; omega⟩
      clear hb1 BX
      go_wp2_with fail
      refine (CT2 _).mono ?_; rintro e w2 ⟨rfl, rfl⟩
      go_wp2_with fail
      have K2 : Aside (Box3 0 (w1.alloc (.cells #[.string nm, .string vl, .bool true] 122)) w1.heap.size (.string nm) (.string vl) (.bool true) ∧ Box3 0 (w1.alloc (.cells #[.string nm, .string vl, .bool true] 122)) w.heap.size (.string ⟨#[]⟩) (.string ⟨#[]⟩) (.bool false) ∧ Below w.heap.size w (w1.alloc (.cells #[.string nm, .string vl, .bool true] 122))) :=
        ⟨⟨by simp, by simp, by simp, by simp, by simp, by simp⟩, K1.out.1.below ((Below.refl _ _).alloc (Nat.le_refl _) _) K1.out.2.2, K1.out.2.1.alloc (by have := K1.out.2.2; omega) _⟩
      clear K1
      generalize w1.alloc (.cells #[.string nm, .string vl, .bool true] 122) = W at *
      generalize w1.heap.size = g7 at *
      have KB : Hid (Below w.heap.size w W) := K2.out.2.2
      obtain ⟨g4, hg4⟩ : ∃ g, Hid (w.heap.size = g) := ⟨_, rfl⟩
      rw [hg4.out] at K2 ⊢
      have P := K2.out.1.below (Below.refl _ W).drew (lt_of_cell K2.out.1.c0)
      have R := K2.out.2.1.below (Below.refl _ W).drew (lt_of_cell K2.out.2.1.c0)
      obtain ⟨p0, p1, p2, -, -, -⟩ := P
      obtain ⟨r0, r1, r2, f0, f1, f2⟩ := R
      obtain ⟨p0', p1', p2', -, -, -⟩ := K2.out.1
      obtain ⟨r0', r1', r2', f0', f1', f2'⟩ := K2.out.2.1
      go_region_with (go_at_call 56; refine (CB2 _).mono ?_; rintro e w5 ⟨rfl, rfl⟩)
      all_goals go_wp2_with fail
      all_goals
        refine bodyPost_ret (v := .tuple #[.agg #[.string nm, .string vl, .bool true], .int .i64 ((t : Int) + (u : Int))]) (by simp [results, Tryd.results58, go_sem, r0, r1, r2, r0', r1', r2']) rfl ⟨by simp [parRes], ?_⟩
        have G : w.heap.size ≤ g4 := Nat.le_of_eq hg4.out
        repeat (first | exact KB.out | refine Below.drew ?_ | refine Below.setCell ?_ G _)
  · rw [if_neg hm] at CT2
    have PO2 : Hid (parOf s i = none) := by
      show _ = _
      rw [PO.out, if_neg hm]
    rw [PO2.out]
    clear PO PO2 hm hab
    rcases Q with ⟨q1, e, q2, q3⟩ | q1
    all_goals
      go_enter Tryd.func58, Tryd.ntmps58
      go_wp2_with fail
      refine (CB _).mono ?_; rintro e w1 ⟨rfl, rfl⟩
      go_wp2_with fail
      refine (CT _).mono ?_; rintro e w1 ⟨rfl, rfl⟩
      have BX : Aside (Box3 0 (w.alloc (.cells #[.string ⟨#[]⟩, .string ⟨#[]⟩, .bool false] 122)) w.heap.size (.string ⟨#[]⟩) (.string ⟨#[]⟩) (.bool false)) := ⟨by simp, by simp, by simp, by simp, by simp, by simp⟩
      go_wp2_with fail
      refine (CL _).mono ?_; rintro e w1 ⟨rfl, hb1⟩
      have K1 : Aside (Box3 0 w1 w.heap.size (.string ⟨#[]⟩) (.string ⟨#[]⟩) (.bool false) ∧ Below w.heap.size w w1 ∧ w.heap.size < w1.heap.size) := ⟨BX.out.below hb1 (by simp), ((Below.refl _ _).alloc (Nat.le_refl _) _).trans (hb1.mono (by simp)), by have := hb1.size; simp at this; omega⟩
      clear hb1 BX
      have KB : Hid (Below w.heap.size w (w1.alloc (.cells #[.string nm, .string ⟨#[]⟩, .bool true] 122))) := K1.out.2.1.alloc (by have := K1.out.2.2; omega) _
      have KR := K1.out.1.below ((Below.refl w1.heap.size w1).alloc (Nat.le_refl _) (.cells #[.string nm, .string ⟨#[]⟩, .bool true] 122)) K1.out.2.2
      clear K1
      go_wp2_with fail
      refine (CT2 _).mono ?_; rintro e w2 ⟨rfl, rfl⟩
      generalize w1.alloc (.cells #[.string nm, .string ⟨#[]⟩, .bool true] 122) = W at *
      obtain ⟨g4, hg4⟩ : ∃ g, Hid (w.heap.size = g) := ⟨_, rfl⟩
      rw [hg4.out] at KR
      obtain ⟨r0, r1, r2, f0, f1, f2⟩ := KR
      rw [hg4.out]
      go_wp2_with fail
      refine bodyPost_ret (v := .tuple #[.agg #[.string ⟨#[]⟩, .string ⟨#[]⟩, .bool false], .int .i64 (-1)]) (by simp [results, Tryd.results58, go_sem, r0, r1, r2]) rfl ⟨rfl, ?_⟩
      have G : w.heap.size ≤ g4 := Nat.le_of_eq hg4.out
      repeat (first | exact KB.out | refine Below.drew ?_ | refine Below.setCell ?_ G _)
end Go.Proofs.YtelofhplpeeplaaDoor.media
