/- The document's parameter at a place, its value a text between marks; any parameter. -/
import Derived.Test.YtelofhplpeeplaaDoorMdTok
set_option linter.unusedSimpArgs false
set_option linter.unusedVariables false
namespace Go.Proofs.YtelofhplpeeplaaDoor.media
open Go.RowKit Go.Proofs.YtelofhplpeeplaaDoor.errs Go.Proofs.YtelofhplpeeplaaDoor.gmath Go.Proofs.YtelofhplpeeplaaDoor.glref

theorem unq_le : ∀ (g : Nat) (l acc v r : List UInt8), l.length ≤ g → unq acc l = some (v, r) → r.length ≤ l.length
  | g, [], acc, v, r, _, h => by unfold unq at h; cases h
  | 0, c :: l, acc, v, r, hg, h => by rw [List.length_cons] at hg; omega
  | g + 1, c :: l, acc, v, r, hg, h => by
    rw [List.length_cons] at hg
    unfold unq at h
    by_cases e1 : c = 34
    · rw [if_pos e1] at h
      obtain ⟨-, rfl⟩ := Prod.mk.inj (Option.some.inj h)
      rw [List.length_cons]; omega
    · rw [if_neg e1] at h
      by_cases e2 : c = 92
      · rw [if_pos e2] at h
        cases l with
        | nil => cases h
        | cons d l' =>
          rw [List.length_cons] at hg
          have := unq_le g l' _ v r (by omega) h
          rw [List.length_cons, List.length_cons]; omega
      · rw [if_neg e2] at h
        have := unq_le g l _ v r (by omega) h
        rw [List.length_cons]; omega

set_option maxRecDepth 100000 in
set_option maxHeartbeats 1000000 in
theorem rparam_quote (s : ByteArray) (i : Nat) (hs : s.size ≤ 1000000) (hi : i < s.size) (h : s.get! i = 59) (hn : (1 ≤ nameN s i ∧ nameN s i ≤ 100) ∧ (nameAt s i + nameN s i < s.size ∧ s.get! (nameAt s i + nameN s i) = 61))
    (hq : nameAt s i + nameN s i + 1 < s.size ∧ s.get! (nameAt s i + nameN s i + 1) = 34) (w : World) :
    Calls Tryd.prog 58 #[.string s, .int .i64 i] w fun e w' => e = .returned (.tuple #[(parRes (parOf s i)).1, .int .i64 (parRes (parOf s i)).2]) ∧ Below w.heap.size w w' := by
  have PO : Hid (parOf s i = match unq [] (s.data.toList.drop (nameAt s i + nameN s i + 1 + 1)) with
      | none => none
      | some (v, r) => some ((lowS (s.extract (nameAt s i) (nameAt s i + nameN s i)), ⟨v.toArray⟩), s.size - r.length + spanN isBl (s.data.toList.drop (s.size - r.length)))) := by
    show _ = _
    unfold parOf valOf
    rw [if_pos ⟨hi, h⟩, if_pos hn, if_pos hq]
    cases unq [] (s.data.toList.drop (nameAt s i + nameN s i + 1 + 1)) with
    | none => rfl
    | some x => rfl
  have y1 : (0 : Int) ≤ (i : Int) := by omega
  have y0 : ¬ (s.size : Int) ≤ (i : Int) := by omega
  have y2 : (i : Int) < (s.size : Int) := by omega
  have ix := byte_at s i hi
  have b3 : (((s.get! i).toNat : Int) != 59) = false := by rw [h]; rfl
  have CB := rblank_next s i hs hi
  have hle : nameAt s i ≤ s.size := span_in s isBl (i + 1) (by omega)
  have CT := fun w => rtok_any s (nameAt s i) hs hle w
  have hln : nameAt s i + nameN s i ≤ s.size := span_in s inTok _ hle
  have ET : tokAt s (nameAt s i) = if 1 ≤ nameN s i ∧ nameN s i ≤ 100 then ((nameAt s i + nameN s i : Nat) : Int) else -1 := rfl
  rw [ET, if_pos hn.1] at CT
  have ib := byte_at s _ hn.2.1
  have b4 : (((s.get! (nameAt s i + nameN s i)).toNat : Int) != 61) = false := by rw [hn.2.2]; rfl
  have h1 := hn.1.1
  have hb := hn.2.1
  clear ET h hn
  generalize nameAt s i = a at *
  generalize nameN s i = n at *
  generalize s.get! i = d at *
  generalize s.get! (a + n) = d2 at *
  obtain ⟨b, HAB⟩ : ∃ b, Hid (a + n = b) := ⟨_, rfl⟩
  have PO := PO.out
  rw [HAB.out] at PO CT hln ib hb hq
  replace PO := Lib.hid PO
  have hab := HAB.out
  have x0 : ¬ (b : Int) < 0 := by omega
  have x1 : (0 : Int) ≤ (b : Int) := by omega
  have x2 : ((b : Int) == (s.size : Int)) = false := beq_eq_false_iff_ne.2 (by omega)
  have x3 : (b : Int) < (s.size : Int) := by omega
  have x4 : (0 : Int) ≤ (a : Int) := by omega
  have sl : ∀ w, (Instr.slice 9 (.string s) (some (.int .i64 a)) (some (.int .i64 b)) none).run Tryd.prog w = .ok (.string (s.extract a b)) w := fun w => by
    rw [run_slice_string_if (h := Tryd.underlying9), if_pos (by omega), if_pos (by omega)]
    rfl
  have CL := fun w => rlower_any (s.extract a b) (by rw [ByteArray.size_extract]; omega) w
  have CQ := fun w => rquoted_any s (b + 1) hs (by omega) w
  have EQ : quOf s (b + 1) = quRes s.size (unq [] (s.data.toList.drop (b + 1 + 1))) := rfl
  rw [EQ] at CQ
  clear EQ
  rw [show ((b + 1 : Nat) : Int) = (b : Int) + 1 by omega] at CQ
  have q1 : (b : Int) + 1 < (s.size : Int) := by omega
  have q2 : ∀ w, (Instr.index 9 (.string s) (.int .i64 ((b : Int) + 1))).run Tryd.prog w = .ok (.int .u8 34) w := fun w => by
    have := byte_at s (b + 1) hq.1 w
    rw [hq.2] at this
    rwa [show ((b + 1 : Nat) : Int) = (b : Int) + 1 by omega] at this
  have UL := Lib.hid fun v r => unq_le s.size (s.data.toList.drop (b + 1 + 1)) [] v r (by rw [List.length_drop, Array.length_toList]; exact Nat.sub_le _ _)
  generalize lowS (s.extract a b) = nm at *
  clear hq
  obtain ⟨x, hx⟩ : ∃ x, Hid (unq [] (s.data.toList.drop (b + 1 + 1)) = x) := ⟨_, rfl⟩
  have PO := PO.out
  rw [hx.out] at PO CQ
  replace PO := Lib.hid PO
  cases x with
  | some vr =>
    obtain ⟨v0, r⟩ := vr
    have hr : r.length ≤ s.size := by
      have h9 := UL.out v0 r hx.out
      rw [List.length_drop, Array.length_toList] at h9
      exact Nat.le_trans h9 (Nat.sub_le _ _)
    have PO2 : Hid (parOf s i = some ((nm, ⟨v0.toArray⟩), s.size - r.length + spanN isBl (s.data.toList.drop (s.size - r.length)))) := PO.out
    rw [PO2.out]
    have CQ : ∀ w, Calls Tryd.prog 69 #[.string s, .int .i64 ((b : Int) + 1)] w fun e w' => e = .returned (.tuple #[.string ⟨v0.toArray⟩, .int .i64 ((s.size - r.length : Nat) : Int)]) ∧ w = w' := by
      rw [show ((s.size - r.length : Nat) : Int) = (s.size : Int) - (r.length : Int) by omega]
      exact CQ
    have CB2 := fun w => rblank_any s (s.size - r.length) hs (Nat.sub_le _ _) w
    have hlt2 := span_in s isBl (s.size - r.length) (Nat.sub_le _ _)
    obtain ⟨t, HT⟩ : ∃ t, Hid (s.size - r.length = t) := ⟨_, rfl⟩
    rw [HT.out] at CQ CB2 hlt2 ⊢
    have z0 : ¬ (t : Int) < 0 := by omega
    have z1 : (0 : Int) ≤ (t : Int) := by omega
    generalize (⟨v0.toArray⟩ : ByteArray) = vl at *
    generalize spanN isBl (s.data.toList.drop t) = u at *
    clear PO PO2 hab UL hx hr HT
    go_enter Tryd.func58, Tryd.ntmps58
    go_wp2_with fail
    refine (CB _).mono ?_; rintro e w1 ⟨rfl, rfl⟩
    go_wp2_with fail
    refine (CT _).mono ?_; rintro e w1 ⟨rfl, rfl⟩
    have BX : Aside (Box3 0 (w.alloc (.cells #[.string ⟨#[]⟩, .string ⟨#[]⟩, .bool false] 122)) w.heap.size (.string ⟨#[]⟩) (.string ⟨#[]⟩) (.bool false)) := ⟨by simp, by simp, by simp, by simp, by simp, by simp⟩
    go_wp2_with fail
    refine (CL _).mono ?_; rintro e w1 ⟨rfl, hb1⟩
    have K1 : Aside (Box3 0 w1 w.heap.size (.string ⟨#[]⟩) (.string ⟨#[]⟩) (.bool false) ∧ Below w.heap.size w w1 ∧ w.heap.size < w1.heap.size) := ⟨BX.out.below hb1 (by simp), ((Below.refl _ _).alloc (Nat.le_refl _) _).trans (hb1.mono (by simp)), by have := hb1.size; simp at this; omega⟩
    clear hb1 BX
    go_wp2_with fail
    refine (CQ _).mono ?_; rintro e w2 ⟨rfl, rfl⟩
    go_wp2_with fail
    have K2 : Aside (Box3 0 (w1.alloc (.cells #[.string nm, .string vl, .bool true] 122)) w1.heap.size (.string nm) (.string vl) (.bool true) ∧ Box3 0 (w1.alloc (.cells #[.string nm, .string vl, .bool true] 122)) w.heap.size (.string ⟨#[]⟩) (.string ⟨#[]⟩) (.bool false) ∧ Below w.heap.size w (w1.alloc (.cells #[.string nm, .string vl, .bool true] 122))) :=
      ⟨⟨by simp, by simp, by simp, by simp, by simp, by simp⟩, K1.out.1.below ((Below.refl _ _).alloc (Nat.le_refl _) _) K1.out.2.2, K1.out.2.1.alloc (by have := K1.out.2.2; omega) _⟩
    clear K1
    generalize w1.alloc (.cells #[.string nm, .string vl, .bool true] 122) = W at *
    generalize w1.heap.size = g7 at *
    have KB : Hid (Below w.heap.size w W) := K2.out.2.2
    obtain ⟨g4, hg4⟩ : ∃ g, Hid (w.heap.size = g) := ⟨_, rfl⟩
    rw [hg4.out] at K2 ⊢
    have P := K2.out.1.below (Below.refl _ W).drew (lt_of_cell K2.out.1.c0)
    have R := K2.out.2.1.below (Below.refl _ W).drew (lt_of_cell K2.out.2.1.c0)
    obtain ⟨p0, p1, p2, -, -, -⟩ := P
    obtain ⟨r0, r1, r2, f0, f1, f2⟩ := R
    obtain ⟨p0', p1', p2', -, -, -⟩ := K2.out.1
    obtain ⟨r0', r1', r2', f0', f1', f2'⟩ := K2.out.2.1
    go_region_with (go_at_call 56; refine (CB2 _).mono ?_; rintro e w5 ⟨rfl, rfl⟩)
    all_goals go_wp2_with fail
    all_goals
      refine bodyPost_ret (v := .tuple #[.agg #[.string nm, .string vl, .bool true], .int .i64 ((t : Int) + (u : Int))]) (by simp [results, Tryd.results58, go_sem, r0, r1, r2, r0', r1', r2']) rfl ⟨by simp [parRes], ?_⟩
      have G : w.heap.size ≤ g4 := Nat.le_of_eq hg4.out
      repeat (first | exact KB.out | refine Below.drew ?_ | refine Below.setCell ?_ G _)
  | none =>
    have PO2 : Hid (parOf s i = none) := PO.out
    rw [PO2.out]
    have CQ : ∀ w, Calls Tryd.prog 69 #[.string s, .int .i64 ((b : Int) + 1)] w fun e w' => e = .returned (.tuple #[.string ⟨#[]⟩, .int .i64 (-1)]) ∧ w = w' := CQ
    clear PO PO2 hab UL hx
    go_enter Tryd.func58, Tryd.ntmps58
    go_wp2_with fail
    refine (CB _).mono ?_; rintro e w1 ⟨rfl, rfl⟩
    go_wp2_with fail
    refine (CT _).mono ?_; rintro e w1 ⟨rfl, rfl⟩
    have BX : Aside (Box3 0 (w.alloc (.cells #[.string ⟨#[]⟩, .string ⟨#[]⟩, .bool false] 122)) w.heap.size (.string ⟨#[]⟩) (.string ⟨#[]⟩) (.bool false)) := ⟨by simp, by simp, by simp, by simp, by simp, by simp⟩
    go_wp2_with fail
    refine (CL _).mono ?_; rintro e w1 ⟨rfl, hb1⟩
    have K1 : Aside (Box3 0 w1 w.heap.size (.string ⟨#[]⟩) (.string ⟨#[]⟩) (.bool false) ∧ Below w.heap.size w w1 ∧ w.heap.size < w1.heap.size) := ⟨BX.out.below hb1 (by simp), ((Below.refl _ _).alloc (Nat.le_refl _) _).trans (hb1.mono (by simp)), by have := hb1.size; simp at this; omega⟩
    clear hb1 BX
    have KB : Hid (Below w.heap.size w (w1.alloc (.cells #[.string nm, .string ⟨#[]⟩, .bool true] 122))) := K1.out.2.1.alloc (by have := K1.out.2.2; omega) _
    have KR := K1.out.1.below ((Below.refl w1.heap.size w1).alloc (Nat.le_refl _) (.cells #[.string nm, .string ⟨#[]⟩, .bool true] 122)) K1.out.2.2
    clear K1
    go_wp2_with fail
    refine (CQ _).mono ?_; rintro e w2 ⟨rfl, rfl⟩
    obtain ⟨g4, hg4⟩ : ∃ g, Hid (w.heap.size = g) := ⟨_, rfl⟩
    rw [hg4.out] at KR
    obtain ⟨r0, r1, r2, f0, f1, f2⟩ := KR
    rw [hg4.out]
    go_wp2_with fail
    refine bodyPost_ret (v := .tuple #[.agg #[.string ⟨#[]⟩, .string ⟨#[]⟩, .bool false], .int .i64 (-1)]) (by simp [results, Tryd.results58, go_sem, r0, r1, r2]) rfl ⟨rfl, ?_⟩
    have G : w.heap.size ≤ g4 := Nat.le_of_eq hg4.out
    repeat (first | exact KB.out | refine Below.drew ?_ | refine Below.setCell ?_ G _)

theorem rparam_any (s : ByteArray) (i : Nat) (hs : s.size ≤ 1000000) (hi : i ≤ s.size) (w : World) :
    Calls Tryd.prog 58 #[.string s, .int .i64 i] w fun e w' => e = .returned (.tuple #[(parRes (parOf s i)).1, .int .i64 (parRes (parOf s i)).2]) ∧ Below w.heap.size w w' := by
  by_cases h : i < s.size ∧ s.get! i = 59
  · by_cases hn : (1 ≤ nameN s i ∧ nameN s i ≤ 100) ∧ (nameAt s i + nameN s i < s.size ∧ s.get! (nameAt s i + nameN s i) = 61)
    · by_cases hq : nameAt s i + nameN s i + 1 < s.size ∧ s.get! (nameAt s i + nameN s i + 1) = 34
      · exact rparam_quote s i hs h.1 h.2 hn hq w
      · exact rparam_tok s i hs h.1 h.2 hn hq w
    · have e : parOf s i = none := by unfold parOf; rw [if_pos h, if_neg hn]
      rw [e]
      exact rparam_name s i hs h.1 h.2 hn w
  · have e : parOf s i = none := by unfold parOf; rw [if_neg h]
    rw [e]
    exact rparam_none s i hs hi h w
end Go.Proofs.YtelofhplpeeplaaDoor.media
