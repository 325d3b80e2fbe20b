/- media.Parse. -/
import Derived.Test.YtelofhplpeeplaaDoorMdTwice
set_option linter.unusedSimpArgs false
set_option linter.unusedVariables false
namespace Go.Proofs.YtelofhplpeeplaaDoor.media
open Go.RowKit Go.Proofs.YtelofhplpeeplaaDoor.errs

def tOf : Med → ByteArray | .bad _ _ => ⟨#[]⟩ | .good t _ _ => t
def uOf : Med → ByteArray | .bad _ _ => ⟨#[]⟩ | .good _ u _ => u
def psOf : Med → List It | .bad _ _ => [] | .good _ _ ps => ps
def ErrIs (w : World) (x : Value) : Med → Prop | .bad k a => FaultAt w x k a .nilIface | .good _ _ _ => x = .nilIface
/-- What reading a kind answers. -/
def MediaOut (o : Med) (w : World) (e : Ending) (w' : World) : Prop :=
  ∃ (ad : Option Addr) (n c : Nat) (x : Value), e = .returned (.tuple #[.agg #[.string (tOf o), .string (uOf o), .slice ad n c], x]) ∧ ItemsFrom w.heap.size w' (.slice ad n c) (psOf o) ∧ ErrIs w' x o ∧ Below w.heap.size w w'
theorem from_nil (B : Nat) (w : World) : ItemsFrom B w (.slice none 0 0) [] := ⟨none, 0, rfl, Nat.le_refl _, by omega, fun h => absurd h (Nat.not_lt_zero _)⟩

theorem fault_box {w : World} {v inner : Value} {k a : Int} (h : FaultAt w v k a inner) {g : Nat} {s0 : ByteArray} (hg : w.cell? ⟨g, 0, none⟩ = some (.string s0)) (x y z : Value) :
    FaultAt (((w.setCell ⟨g, 0, none⟩ x).setCell ⟨g, 1, none⟩ y).setCell ⟨g, 2, none⟩ z) v k a inner := by
  obtain ⟨b, rfl, h0, h1, h2⟩ := h
  have hne : g ≠ b := fun e => by rw [e, h0] at hg; cases hg
  have ne : ∀ i j : Nat, (⟨g, i, none⟩ : Addr) ≠ ⟨b, j, none⟩ := fun i j e => hne (congrArg Addr.block e)
  refine ⟨b, rfl, ?_, ?_, ?_⟩
  all_goals rw [World.cell?_setCell_other _ _ _ _ (ne _ _), World.cell?_setCell_other _ _ _ _ (ne _ _), World.cell?_setCell_other _ _ _ _ (ne _ _)]
  · exact h0
  · exact h1
  · exact h2

set_option maxRecDepth 100000 in
set_option maxHeartbeats 1000000 in
theorem parse_any (s : ByteArray) (hs : s.size ≤ 1000000) (w : World) :
    Calls Tryd.prog 49 #[.string s] w fun e w' => MediaOut (mediaOf s) w e w' := by
  have F := fail_any
  unfold mediaOf
  by_cases h1 : 1000 < s.size
  · rw [if_pos h1]
    have x0 : (1000 : Int) < (s.size : Int) := by omega
    clear h1
    go_enter Tryd.func49, Tryd.ntmps49
    have K0 : Hid (Kept w (w.alloc (.cells #[.string ⟨#[]⟩, .string ⟨#[]⟩, .slice none 0 0] 96)) (.string ⟨#[]⟩) (.string ⟨#[]⟩) (.slice none 0 0)) := Kept.new w _ _ _ _
    go_wp2_with fail
    refine (F _ _ _).mono ?_; rintro e w2 ⟨rfl, hw2⟩
    have K1 : Hid (Kept w w2 (.string ⟨#[]⟩) (.string ⟨#[]⟩) (.slice none 0 0)) := K0.out.step (hw2 ▸ (Below.refl _ _).alloc (Nat.le_refl _) _)
    have FA : Hid (FaultAt w2 (.iface 65 (.pointer (some ⟨(w.alloc (.cells #[.string ⟨#[]⟩, .string ⟨#[]⟩, .slice none 0 0] 96)).heap.size, 0, none⟩))) 14 1000 .nilIface) := by
      show FaultAt _ _ _ _ _
      rw [← hw2]
      exact fault_new _ _ _ _
    clear hw2 K0
    obtain ⟨g8, hg8⟩ : ∃ g, (w.alloc (.cells #[.string ⟨#[]⟩, .string ⟨#[]⟩, .slice none 0 0] 96)).heap.size = g := ⟨_, rfl⟩
    rw [hg8] at FA ⊢
    clear hg8
    have KB : Hid (Below w.heap.size w w2) := K1.out.below
    obtain ⟨r0, r1, r2, f0, f1, f2⟩ := K1.out.box
    obtain ⟨g4, hg4⟩ : ∃ g, Hid (w.heap.size = g) := ⟨_, rfl⟩
    rw [hg4.out] at r0 r1 r2 f0 f1 f2 ⊢
    clear K1
    go_wp2_with fail
    refine bodyPost_ret (v := .tuple #[.agg #[.string ⟨#[]⟩, .string ⟨#[]⟩, .slice none 0 0], .iface 65 (.pointer (some ⟨g8, 0, none⟩))]) (by simp [results, Tryd.results49, go_sem, r0, r1, r2]) rfl ⟨_, _, _, _, rfl, from_nil _ _, fault_box FA.out r0 _ _ _, ?_⟩
    have G : w.heap.size ≤ g4 := Nat.le_of_eq hg4.out
    repeat (first | exact KB.out | refine Below.setCell ?_ G _)
  · rw [if_neg h1]
    have x0 : ¬ (1000 : Int) < (s.size : Int) := by omega
    clear h1
    have R : ∀ w, Calls Tryd.prog 61 #[.string s] w fun e w' => ReadOut (readC s.data.toList) w e w' := fun w => by
      have := read_any s.data.toList (by rw [Array.length_toList]; exact hs) w
      rwa [T_of] at this
    have TW := twice_any
    -- what is ahead of the decision
    have key : ∀ (o : Option ((ByteArray × ByteArray) × List It)), readC s.data.toList = o → Calls Tryd.prog 49 #[.string s] w fun e w' => MediaOut (match o with
      | none => .bad 11 0
      | some ((t, u), ps) => if 8 < ps.length then .bad 15 0 else if twin ps then .bad 31 0 else .good t u ps) w e w' := by
      intro o ho
      rw [ho] at R
      clear ho
      cases o with
      | none =>
        simp only
        go_enter Tryd.func49, Tryd.ntmps49
        have K0 : Hid (Kept w (w.alloc (.cells #[.string ⟨#[]⟩, .string ⟨#[]⟩, .slice none 0 0] 96)) (.string ⟨#[]⟩) (.string ⟨#[]⟩) (.slice none 0 0)) := Kept.new w _ _ _ _
        go_wp2_with fail
        refine (R _).mono ?_; rintro e w2 ⟨t, u, ad, n, c, ok, rfl, hb, rfl⟩
        have K1 : Hid (Kept w (w2.alloc (.cells #[.string t, .string u, .slice ad n c] 96)) (.string ⟨#[]⟩) (.string ⟨#[]⟩) (.slice none 0 0)) := (K0.out.step hb).step ((Below.refl _ _).alloc (Nat.le_refl _) _)
        clear hb K0
        go_wp2_with fail
        refine (F _ _ _).mono ?_; rintro e w3 ⟨rfl, hw3⟩
        have K2 : Hid (Kept w w3 (.string ⟨#[]⟩) (.string ⟨#[]⟩) (.slice none 0 0)) := K1.out.step (hw3 ▸ (Below.refl _ _).alloc (Nat.le_refl _) _)
        have FA : Hid (FaultAt w3 (.iface 65 (.pointer (some ⟨(w2.alloc (.cells #[.string t, .string u, .slice ad n c] 96)).heap.size, 0, none⟩))) 11 0 .nilIface) := by
          show FaultAt _ _ _ _ _
          rw [← hw3]
          exact fault_new _ _ _ _
        clear hw3 K1
        obtain ⟨g8, hg8⟩ : ∃ g, (w2.alloc (.cells #[.string t, .string u, .slice ad n c] 96)).heap.size = g := ⟨_, rfl⟩
        rw [hg8] at FA ⊢
        clear hg8
        have KB : Hid (Below w.heap.size w w3) := K2.out.below
        obtain ⟨r0, r1, r2, f0, f1, f2⟩ := K2.out.box
        obtain ⟨g4, hg4⟩ : ∃ g, Hid (w.heap.size = g) := ⟨_, rfl⟩
        rw [hg4.out] at r0 r1 r2 f0 f1 f2 ⊢
        clear K2
        go_wp2_with fail
        refine bodyPost_ret (v := .tuple #[.agg #[.string ⟨#[]⟩, .string ⟨#[]⟩, .slice none 0 0], .iface 65 (.pointer (some ⟨g8, 0, none⟩))]) (by simp [results, Tryd.results49, go_sem, r0, r1, r2]) rfl ⟨_, _, _, _, rfl, from_nil _ _, fault_box FA.out r0 _ _ _, ?_⟩
        have G : w.heap.size ≤ g4 := Nat.le_of_eq hg4.out
        repeat (first | exact KB.out | refine Below.setCell ?_ G _)
      | some x =>
        obtain ⟨⟨t, u⟩, ps⟩ := x
        simp only
        obtain ⟨m, hm⟩ : ∃ m, Hid ((if 8 < ps.length then Med.bad 15 0 else if twin ps then .bad 31 0 else .good t u ps) = m) := ⟨_, rfl⟩
        rw [hm.out]
        go_enter Tryd.func49, Tryd.ntmps49
        have K0 : Hid (Kept w (w.alloc (.cells #[.string ⟨#[]⟩, .string ⟨#[]⟩, .slice none 0 0] 96)) (.string ⟨#[]⟩) (.string ⟨#[]⟩) (.slice none 0 0)) := Kept.new w _ _ _ _
        go_wp2_with fail
        refine (R _).mono ?_; rintro e w2 ⟨t', u', ad, n, c, ok, rfl, hb, rfl, rfl, rfl, hI⟩
        have K1 : Hid (Kept w (w2.alloc (.cells #[.string t', .string u', .slice ad n c] 96)) (.string ⟨#[]⟩) (.string ⟨#[]⟩) (.slice none 0 0)) := (K0.out.step hb).step ((Below.refl _ _).alloc (Nat.le_refl _) _)
        have I1 : Hid (ItemsFrom (w.heap.size + 1) (w2.alloc (.cells #[.string t', .string u', .slice ad n c] 96)) (.slice ad n c) ps) := (hI.mono K0.out.lt).below ((Below.refl _ _).alloc (Nat.le_refl _) _)
        have hlen := I1.out.in.len
        have hm2 : Hid (n = ps.length) := hlen.1.symm
        clear hb hI hlen
        have B2 : Hid (Box3 0 (w2.alloc (.cells #[.string t', .string u', .slice ad n c] 96)) w2.heap.size (.string t') (.string u') (.slice ad n c)) := ⟨by simp, by simp, by simp, by simp, by simp, by simp⟩
        have LT2 : Hid (w2.heap.size < (w2.alloc (.cells #[.string t', .string u', .slice ad n c] 96)).heap.size) := by show _ < _; simp
        by_cases h8 : 8 < n
        · have y0 : (8 : Int) < (n : Int) := by omega
          have V : Hid (m = .bad 15 0) := by
            show _ = _
            rw [← hm.out, if_pos (by rw [← hm2.out]; exact h8)]
          clear h8 K0 B2 LT2 I1 hm
          go_wp2_with fail
          refine (F _ _ _).mono ?_; rintro e w3 ⟨rfl, hw3⟩
          have K2 : Hid (Kept w w3 (.string ⟨#[]⟩) (.string ⟨#[]⟩) (.slice none 0 0)) := K1.out.step (hw3 ▸ (Below.refl _ _).alloc (Nat.le_refl _) _)
          have FA : Hid (FaultAt w3 (.iface 65 (.pointer (some ⟨(w2.alloc (.cells #[.string t', .string u', .slice ad n c] 96)).heap.size, 0, none⟩))) 15 0 .nilIface) := by
            show FaultAt _ _ _ _ _
            rw [← hw3]
            exact fault_new _ _ _ _
          clear hw3 K1
          obtain ⟨g8, hg8⟩ : ∃ g, (w2.alloc (.cells #[.string t', .string u', .slice ad n c] 96)).heap.size = g := ⟨_, rfl⟩
          rw [hg8] at FA ⊢
          clear hg8
          have KB : Hid (Below w.heap.size w w3) := K2.out.below
          obtain ⟨r0, r1, r2, f0, f1, f2⟩ := K2.out.box
          obtain ⟨g4, hg4⟩ : ∃ g, Hid (w.heap.size = g) := ⟨_, rfl⟩
          rw [hg4.out] at r0 r1 r2 f0 f1 f2 ⊢
          clear K2
          go_wp2_with fail
          refine bodyPost_ret (v := .tuple #[.agg #[.string ⟨#[]⟩, .string ⟨#[]⟩, .slice none 0 0], .iface 65 (.pointer (some ⟨g8, 0, none⟩))]) (by simp [results, Tryd.results49, go_sem, r0, r1, r2]) rfl ?_
          rw [V.out]
          refine ⟨_, _, _, _, rfl, from_nil _ _, fault_box FA.out r0 _ _ _, ?_⟩
          have G : w.heap.size ≤ g4 := Nat.le_of_eq hg4.out
          repeat (first | exact KB.out | refine Below.setCell ?_ G _)
        · have y0 : ¬ (8 : Int) < (n : Int) := by omega
          have CT := fun w h => TW ps ad n c w h (by omega)
          obtain ⟨q, hq⟩ : ∃ q, Hid (twin ps = q) := ⟨_, rfl⟩
          rw [hq.out] at CT
          have C3 := CT _ I1.out.in
          have HM : Hid (m = if q = true then Med.bad 31 0 else .good t' u' ps) := by
            show _ = _
            rw [← hm.out, if_neg (by rw [← hm2.out]; exact h8), hq.out]
          clear h8 K0 CT hm TW
          go_wp2_with fail
          refine C3.mono ?_; rintro e w3 ⟨rfl, hb⟩
          have K2 : Hid (Kept w w3 (.string ⟨#[]⟩) (.string ⟨#[]⟩) (.slice none 0 0)) := K1.out.step hb
          have B3 : Hid (Box3 0 w3 w2.heap.size (.string t') (.string u') (.slice ad n c)) := B2.out.below hb LT2.out
          have I3 : Hid (ItemsFrom (w.heap.size + 1) w3 (.slice ad n c) ps) := I1.out.below hb
          clear hb K1 B2 I1 LT2
          cases q with
          | true =>
            have V : Hid (m = .bad 31 0) := by show _ = _; rw [HM.out, if_pos rfl]
            clear HM B3 I3
            go_wp2_with fail
            refine (F _ _ _).mono ?_; rintro e w4 ⟨rfl, hw3⟩
            have K3 : Hid (Kept w w4 (.string ⟨#[]⟩) (.string ⟨#[]⟩) (.slice none 0 0)) := K2.out.step (hw3 ▸ (Below.refl _ _).alloc (Nat.le_refl _) _)
            have FA : Hid (FaultAt w4 (.iface 65 (.pointer (some ⟨w3.heap.size, 0, none⟩))) 31 0 .nilIface) := by
              show FaultAt _ _ _ _ _
              rw [← hw3]
              exact fault_new _ _ _ _
            clear hw3 K2
            obtain ⟨g8, hg8⟩ : ∃ g, w3.heap.size = g := ⟨_, rfl⟩
            rw [hg8] at FA ⊢
            clear hg8
            have KB : Hid (Below w.heap.size w w4) := K3.out.below
            obtain ⟨r0, r1, r2, f0, f1, f2⟩ := K3.out.box
            obtain ⟨g4, hg4⟩ : ∃ g, Hid (w.heap.size = g) := ⟨_, rfl⟩
            rw [hg4.out] at r0 r1 r2 f0 f1 f2 ⊢
            clear K3
            go_wp2_with fail
            refine bodyPost_ret (v := .tuple #[.agg #[.string ⟨#[]⟩, .string ⟨#[]⟩, .slice none 0 0], .iface 65 (.pointer (some ⟨g8, 0, none⟩))]) (by simp [results, Tryd.results49, go_sem, r0, r1, r2]) rfl ?_
            rw [V.out]
            refine ⟨_, _, _, _, rfl, from_nil _ _, fault_box FA.out r0 _ _ _, ?_⟩
            have G : w.heap.size ≤ g4 := Nat.le_of_eq hg4.out
            repeat (first | exact KB.out | refine Below.setCell ?_ G _)
          | false =>
            have V : Hid (m = .good t' u' ps) := by show _ = _; rw [HM.out, if_neg (by decide)]
            clear HM
            have KB : Hid (Below w.heap.size w w3) := K2.out.below
            obtain ⟨p0, p1, p2, -, -, -⟩ := B3.out
            obtain ⟨r0, r1, r2, f0, f1, f2⟩ := K2.out.box
            obtain ⟨g7, hg7⟩ : ∃ g, Hid (w2.heap.size = g) := ⟨_, rfl⟩
            rw [hg7.out] at p0 p1 p2 ⊢
            obtain ⟨g4, hg4⟩ : ∃ g, Hid (w.heap.size = g) := ⟨_, rfl⟩
            rw [hg4.out] at r0 r1 r2 f0 f1 f2 ⊢
            clear K2 B3
            go_wp2_with fail
            refine bodyPost_ret (v := .tuple #[.agg #[.string t', .string u', .slice ad n c], .nilIface]) (by simp [results, Tryd.results49, go_sem, r0, r1, r2]) rfl ?_
            rw [V.out]
            refine ⟨_, _, _, _, rfl, ?_, rfl, ?_⟩
            · have hh := hg4.out
              exact (((I3.out.setCell _ (by show g4 < _; omega) _).setCell _ (by show g4 < _; omega) _).setCell _ (by show g4 < _; omega) _).mono (Nat.le_succ _)
            · have G : w.heap.size ≤ g4 := Nat.le_of_eq hg4.out
              repeat (first | exact KB.out | refine Below.setCell ?_ G _)
    cases ho : readC s.data.toList with
    | none => exact key none ho
    | some x => exact key (some x) ho
end Go.Proofs.YtelofhplpeeplaaDoor.media
