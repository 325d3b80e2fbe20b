/- The document's kind of content: its parameters. -/
import Derived.Test.YtelofhplpeeplaaDoorMdRhead
import Derived.Test.YtelofhplpeeplaaDoorMdRound
import Derived.Deep.DeepCutAuto
import Derived.Deep.RegionWith
import Derived.Deep.QuietTactic
import Derived.BigQuiet
import Derived.Deep.LoopGhost
import Derived.IntWalk
set_option linter.unusedSimpArgs false
set_option linter.unusedVariables false
namespace Go.Proofs.YtelofhplpeeplaaDoor.media
open Go.RowKit Go.Proofs.YtelofhplpeeplaaDoor.errs Go.Proofs.YtelofhplpeeplaaDoor.gmath Go.Proofs.YtelofhplpeeplaaDoor.glref

theorem parC_tail {l r : List UInt8} {x : It} (h : parC l = some (x, r)) : ∃ k, r = l.drop k := by
  unfold parC at h
  cases h1 : must 59 l with
  | none => rw [h1] at h; cases h
  | some r0 =>
    rw [h1] at h
    simp only at h
    cases h2 : tokC (skip r0) with
    | none => rw [h2] at h; cases h
    | some nr =>
      obtain ⟨n, r1⟩ := nr
      rw [h2] at h
      simp only at h
      cases h3 : must 61 r1 with
      | none => rw [h3] at h; cases h
      | some r2 =>
        rw [h3] at h
        simp only at h
        cases h4 : valC r2 with
        | none => rw [h4] at h; cases h
        | some vr =>
          obtain ⟨v, r3⟩ := vr
          rw [h4] at h
          obtain ⟨-, rfl⟩ := Prod.mk.inj (Option.some.inj h)
          obtain ⟨k4, rfl⟩ := valC_tail h4
          have e2 := must_some h3
          have e3 := (tokC_lt h2).2.2.2.1
          have e5 : r2 = r1.drop 1 := by rw [e2]; rfl
          have e6 : r0 = l.drop 1 := by rw [must_some h1]; rfl
          refine ⟨1 + spanN isBl r0 + spanN inTok (skip r0) + 1 + k4, ?_⟩
          rw [e5, e3]
          unfold skip
          rw [drop_span, e6, List.drop_drop, List.drop_drop, List.drop_drop, List.drop_drop]
          congr 1
          omega
theorem skip_len (s : ByteArray) (k : Nat) : skip (s.data.toList.drop k) = s.data.toList.drop (s.size - (skip (s.data.toList.drop k)).length) := by
  by_cases h : k ≤ s.size
  · have h2 := span_in s isBl k h
    conv => rhs; rw [skip_drop, drop_len s _ h2]
    exact skip_drop s k
  · rw [bytes_end (by omega)]
    exact (bytes_end (by show s.size ≤ s.size - 0; omega)).symm
def Z3 : Obj := .cells #[.string ⟨#[]⟩, .string ⟨#[]⟩, .slice none 0 0] 96
/-- What stands when a kind's type and subtype are read: the answer's block, and the kind's. -/
structure Head (w wx : World) (g : Nat) (t u : ByteArray) (v : Value) : Prop where
  res : Kept w wx (.string ⟨#[]⟩) (.string ⟨#[]⟩) (.slice none 0 0)
  box : Box3 0 wx g (.string t) (.string u) v
  lo : w.heap.size < g
  hi : g < wx.heap.size
theorem Head.below {w wx w' : World} {g : Nat} {t u : ByteArray} {v : Value} (h : Head w wx g t u v) (hb : Below wx.heap.size wx w') : Head w w' g t u v :=
  ⟨h.res.step hb, h.box.below hb h.hi, h.lo, Nat.lt_of_lt_of_le h.hi hb.size⟩
theorem Head.put {w W w' : World} {B g : Nat} {t u : ByteArray} {v : Value} (h : Head w W g t u v) (hb : Below B W w') (hg : g < B) (hB : B ≤ W.heap.size) (x : Value) : Head w (w'.setCell ⟨g, 2, none⟩ x) g t u x := by
  have hlo := h.lo
  have ne : ∀ i j : Nat, (⟨g, i, none⟩ : Addr) ≠ ⟨w.heap.size, j, none⟩ := fun i j e => by have := congrArg Addr.block e; simp at this; omega
  have nf : ∀ i j : Nat, i ≠ j → (⟨g, i, none⟩ : Addr) ≠ ⟨g, j, none⟩ := fun i j h e => h (congrArg Addr.off e)
  obtain ⟨k0, k1, k2, f0, f1, f2⟩ := h.res.box.below hb (by omega)
  obtain ⟨p0, p1, p2, z0, z1, z2⟩ := h.box.below hb hg
  refine ⟨⟨⟨?_, ?_, ?_, ?_, ?_, ?_⟩, ?_, ?_⟩, ⟨?_, ?_, ?_, ?_, ?_, ?_⟩, hlo, ?_⟩
  · rw [World.cell?_setCell_other _ _ _ _ (ne _ _)]; exact k0
  · rw [World.cell?_setCell_other _ _ _ _ (ne _ _)]; exact k1
  · rw [World.cell?_setCell_other _ _ _ _ (ne _ _)]; exact k2
  · rw [World.frozen?_setCell]; exact f0
  · rw [World.frozen?_setCell]; exact f1
  · rw [World.frozen?_setCell]; exact f2
  · exact (h.res.below.trans (hb.mono (by omega))).setCell (Nat.le_of_lt hlo) _
  · have := h.res.lt; have := hb.size; simp; omega
  · rw [World.cell?_setCell_other _ _ _ _ (nf _ _ (by decide))]; exact p0
  · rw [World.cell?_setCell_other _ _ _ _ (nf _ _ (by decide))]; exact p1
  · exact World.cell?_setCell_same' _ _ _ (by rw [p2]; rfl)
  · rw [World.frozen?_setCell]; exact z0
  · rw [World.frozen?_setCell]; exact z1
  · rw [World.frozen?_setCell]; exact z2
  · have := h.hi; have := hb.size; simp; omega
theorem own_set {W : World} {B n k : Nat} {e : TypeId} {v : Value} {xs : List Value} (h : W.ownsRow B e k v n xs) (p : Addr) (hp : p.block < B) (x : Value) : (W.setCell p x).ownsRow B e k v n xs := by
  refine ⟨h.1, ?_⟩
  rcases h.2 with h0 | ⟨g, cap, cur, hv, hB, hg, hr⟩
  · exact .inl h0
  · refine .inr ⟨g, cap, cur, hv, hB, ?_, hr⟩
    rw [Below.heap_setCell _ _ _ _ (by omega)]
    exact hg
theorem box_zero (V : World) : Box3 0 (V.alloc Z3) V.heap.size (.string ⟨#[]⟩) (.string ⟨#[]⟩) (.slice none 0 0) := by
  unfold Z3
  exact ⟨by simp, by simp, by simp, by simp, by simp, by simp⟩

theorem head_set {w W : World} {g : Nat} {a b c : Value} (hK : Kept w W (.string ⟨#[]⟩) (.string ⟨#[]⟩) (.slice none 0 0)) (hB : Box3 0 W g a b c) (h1 : w.heap.size < g) (t u : ByteArray) (v : Value) :
    Head w (((W.setCell ⟨g, 0, none⟩ (.string t)).setCell ⟨g, 1, none⟩ (.string u)).setCell ⟨g, 2, none⟩ v) g t u v := by
  have hg : g < W.heap.size := lt_of_cell hB.c0
  have ne : ∀ i j : Nat, (⟨g, i, none⟩ : Addr) ≠ ⟨w.heap.size, j, none⟩ := fun i j e => by have := congrArg Addr.block e; simp at this; omega
  have nf : ∀ i j : Nat, i ≠ j → (⟨g, i, none⟩ : Addr) ≠ ⟨g, j, none⟩ := fun i j h e => h (congrArg Addr.off e)
  obtain ⟨k0, k1, k2, f0, f1, f2⟩ := hK.box
  obtain ⟨p0, p1, p2, z0, z1, z2⟩ := hB
  refine ⟨⟨⟨?_, ?_, ?_, ?_, ?_, ?_⟩, ?_, ?_⟩, ⟨?_, ?_, ?_, ?_, ?_, ?_⟩, h1, ?_⟩
  · rw [World.cell?_setCell_other _ _ _ _ (ne _ _), World.cell?_setCell_other _ _ _ _ (ne _ _), World.cell?_setCell_other _ _ _ _ (ne _ _)]; exact k0
  · rw [World.cell?_setCell_other _ _ _ _ (ne _ _), World.cell?_setCell_other _ _ _ _ (ne _ _), World.cell?_setCell_other _ _ _ _ (ne _ _)]; exact k1
  · rw [World.cell?_setCell_other _ _ _ _ (ne _ _), World.cell?_setCell_other _ _ _ _ (ne _ _), World.cell?_setCell_other _ _ _ _ (ne _ _)]; exact k2
  · rw [World.frozen?_setCell, World.frozen?_setCell, World.frozen?_setCell]; exact f0
  · rw [World.frozen?_setCell, World.frozen?_setCell, World.frozen?_setCell]; exact f1
  · rw [World.frozen?_setCell, World.frozen?_setCell, World.frozen?_setCell]; exact f2
  · exact ((hK.below.setCell (Nat.le_of_lt h1) _).setCell (Nat.le_of_lt h1) _).setCell (Nat.le_of_lt h1) _
  · simp; exact hK.lt
  · rw [World.cell?_setCell_other _ _ _ _ (nf _ _ (by decide)), World.cell?_setCell_other _ _ _ _ (nf _ _ (by decide))]
    exact World.cell?_setCell_same' _ _ _ (by rw [p0]; rfl)
  · rw [World.cell?_setCell_other _ _ _ _ (nf _ _ (by decide))]
    exact World.cell?_setCell_same' _ _ _ (by rw [World.cell?_setCell_other _ _ _ _ (nf _ _ (by decide)), p1]; rfl)
  · exact World.cell?_setCell_same' _ _ _ (by rw [World.cell?_setCell_other _ _ _ _ (nf _ _ (by decide)), World.cell?_setCell_other _ _ _ _ (nf _ _ (by decide)), p2]; rfl)
  · rw [World.frozen?_setCell, World.frozen?_setCell, World.frozen?_setCell]; exact z0
  · rw [World.frozen?_setCell, World.frozen?_setCell, World.frozen?_setCell]; exact z1
  · rw [World.frozen?_setCell, World.frozen?_setCell, World.frozen?_setCell]; exact z2
  · simp; exact hg
theorem head_new {w W : World} (hK : Kept w W (.string ⟨#[]⟩) (.string ⟨#[]⟩) (.slice none 0 0)) (t u : ByteArray) (v : Value) (ty : TypeId) : Head w (W.alloc (.cells #[.string t, .string u, v] ty)) W.heap.size t u v :=
  ⟨hK.step ((Below.refl _ _).alloc (Nat.le_refl _) _), ⟨by simp, by simp, by simp, by simp, by simp, by simp⟩, hK.lt, by simp⟩
section
variable {w wd wa wb : World} (hK : Kept w wd (.string ⟨#[]⟩) (.string ⟨#[]⟩) (.slice none 0 0))
include hK
theorem head_first (h1 : Below (wd.alloc Z3).heap.size (wd.alloc Z3) wa) (h2 : Below wa.heap.size wa wb) (t u : ByteArray) :
    Head w (((wb.setCell ⟨wd.heap.size, 0, none⟩ (.string t)).setCell ⟨wd.heap.size, 1, none⟩ (.string u)).setCell ⟨wd.heap.size, 2, none⟩ (.slice none 0 0)) wd.heap.size t u (.slice none 0 0) := by
  have ha : Box3 0 wa wd.heap.size (.string ⟨#[]⟩) (.string ⟨#[]⟩) (.slice none 0 0) := (box_zero wd).below h1 (by simp)
  exact head_set (((hK.step ((Below.refl _ _).alloc (Nat.le_refl _) _)).step h1).step h2) (ha.below h2 (lt_of_cell ha.c0)) hK.lt t u _
theorem head_second (h1 : Below wd.heap.size wd wa) (h2 : Below (wa.alloc Z3).heap.size (wa.alloc Z3) wb) (t u : ByteArray) :
    Head w (((wb.setCell ⟨wa.heap.size, 0, none⟩ (.string t)).setCell ⟨wa.heap.size, 1, none⟩ (.string u)).setCell ⟨wa.heap.size, 2, none⟩ (.slice none 0 0)) wa.heap.size t u (.slice none 0 0) := by
  have ha : Box3 0 wb wa.heap.size (.string ⟨#[]⟩) (.string ⟨#[]⟩) (.slice none 0 0) := (box_zero wa).below h2 (by simp)
  exact head_set (((hK.step h1).step ((Below.refl _ _).alloc (Nat.le_refl _) _)).step h2) ha (hK.step h1).lt t u _
theorem head_third (h1 : Below wd.heap.size wd wa) (h2 : Below wa.heap.size wa wb) (t u : ByteArray) :
    Head w (wb.alloc (.cells #[.string t, .string u, .slice none 0 0] 96)) wb.heap.size t u (.slice none 0 0) := head_new ((hK.step h1).step h2) t u _ _
end

set_option maxRecDepth 100000 in
set_option maxHeartbeats 1000000 in
theorem rparse_pars (s : ByteArray) (hs : s.size ≤ 1000) (h : HeadOk s) (w : World) :
    Calls Tryd.prog 44 #[.string s] w fun e w' => RMediaOut (mediaOf s) w e w' := by
  have x0 : ¬ (1000 : Int) < (s.size : Int) := by omega
  obtain ⟨res, hres⟩ : ∃ res, Hid (mediaOf s = res) := ⟨_, rfl⟩
  rw [hres.out]
  have CB : ∀ w, Calls Tryd.prog 56 #[.string s, .int .i64 0] w fun e w' => e = .returned (.int .i64 (hdA s)) ∧ w = w' := rblank_any s 0 (by omega) (Nat.zero_le _)
  have hA := hdA_le s
  have hN := hdN_le s
  have CT := fun w => rtok_any s (hdA s) (by omega) hA w
  have ET : tokAt s (hdA s) = if 1 ≤ hdN s ∧ hdN s ≤ 100 then ((hdA s + hdN s : Nat) : Int) else -1 := rfl
  rw [ET, if_pos h.1] at CT
  have HY := Lib.hid (head_yes h)
  obtain ⟨a, ha⟩ : ∃ a, hdA s + hdN s = a := ⟨_, rfl⟩
  have EM : hdM s = spanN inTok (s.data.toList.drop (a + 1)) := by rw [← ha]; rfl
  have h2 := h.2.1
  have h3 := h.2.2
  have HY := HY.out
  have hAa : hdA s ≤ a := by omega
  rw [ha] at CT h2 hN HY
  have CM : ∀ w, Calls Tryd.prog 57 #[.string s, .int .i64 ((a : Int) + 1)] w fun e w' => e = .returned (.int .i64 ((a + 1 + hdM s : Nat) : Int)) ∧ w = w' := fun w => by
    have := rtok_any s (a + 1) (by omega) (by omega) w
    rw [show tokAt s (a + 1) = if 1 ≤ spanN inTok (s.data.toList.drop (a + 1)) ∧ spanN inTok (s.data.toList.drop (a + 1)) ≤ 100 then ((a + 1 + spanN inTok (s.data.toList.drop (a + 1)) : Nat) : Int) else -1 from rfl, ← EM, if_pos h3] at this
    rwa [show ((a + 1 : Nat) : Int) = (a : Int) + 1 by omega] at this
  have hbl : a + 1 + hdM s ≤ s.size := by rw [EM]; exact span_in s inTok _ (by omega)
  obtain ⟨b, hb⟩ : ∃ b, a + 1 + hdM s = b := ⟨_, rfl⟩
  have hab : a + 1 ≤ b := by omega
  rw [hb] at CM hbl HY
  have ia := byte_at s a h2.1
  have c1 : (((s.get! a).toNat : Int) != 47) = false := by rw [h2.2]; rfl
  have h2 := h2.1
  clear ET EM h h3 hb ha
  generalize hdM s = m at *
  generalize hdN s = n at *
  generalize hdA s = A at *
  generalize s.get! a = d at *
  have sl1 : ∀ w, (Instr.slice 9 (.string s) (some (.int .i64 A)) (some (.int .i64 a)) none).run Tryd.prog w = .ok (.string (s.extract A a)) w := fun w => by
    rw [run_slice_string_if (h := Tryd.underlying9), if_pos (by omega), if_pos (by omega)]; rfl
  have sl2 : ∀ w, (Instr.slice 9 (.string s) (some (.int .i64 ((a : Int) + 1))) (some (.int .i64 b)) none).run Tryd.prog w = .ok (.string (s.extract (a + 1) b)) w := fun w => by
    rw [run_slice_string_if (h := Tryd.underlying9), if_pos (by omega), if_pos (by omega), show ((a : Int) + 1).toNat = a + 1 by omega]; rfl
  have CL1 := fun w => rlower_any (s.extract A a) (by rw [ByteArray.size_extract]; omega) w
  have CL2 := fun w => rlower_any (s.extract (a + 1) b) (by rw [ByteArray.size_extract]; omega) w
  have CB2 := fun w => rblank_any s b (by omega) hbl w
  have hk0 := span_in s isBl b hbl
  have SK := Lib.hid (skip_drop s b)
  obtain ⟨k0, hk0e⟩ : ∃ k0, Hid (b + spanN isBl (s.data.toList.drop b) = k0) := ⟨_, rfl⟩
  rw [hk0e.out] at CB2 hk0
  have SK := SK.out
  rw [hk0e.out] at SK
  replace SK := Lib.hid SK
  have HY := Lib.hid HY
  have z1 : ¬ (a : Int) < 0 := by omega
  have z2 : (0 : Int) ≤ (a : Int) := by omega
  have z3 : ((a : Int) == (s.size : Int)) = false := beq_eq_false_iff_ne.2 (by omega)
  have z4 : (a : Int) < (s.size : Int) := by omega
  have z5 : ¬ (b : Int) < 0 := by omega
  generalize lowS (s.extract A a) = LT at *
  generalize lowS (s.extract (a + 1) b) = LU at *
  generalize s.extract A a = S1 at *
  generalize s.extract (a + 1) b = S2 at *
  have q1 : (0 : Int) ≤ (A : Int) := by omega
  have q2 : (A : Int) ≤ (a : Int) := by omega
  have q3 : (a : Int) + 1 ≤ (b : Int) := by omega
  have q4 : (b : Int) ≤ (s.size : Int) := by omega
  have q5 : (0 : Int) ≤ (a : Int) + 1 := by omega
  have q6 : (a : Int) ≤ (s.size : Int) := by omega
  have q7 : ((a : Int) + 1).toNat = a + 1 := by omega
  have q8 : (0 : Int) ≤ (b : Int) := by omega
  have hwr : IntKind.i64.wrap ((a : Int) + 1) = (a : Int) + 1 := IntWalk.i64_in _ (by omega)
  clear hA hN h2 hAa hbl hab hk0e
  go_enter Tryd.func44, Tryd.ntmps44
  have K0 : Hid (Kept w (w.alloc Z3) (.string ⟨#[]⟩) (.string ⟨#[]⟩) (.slice none 0 0)) := Kept.new w _ _ _ _
  go_wp2_with fail
  refine (CB _).mono ?_; rintro e w1 ⟨rfl, rfl⟩
  go_wp2_with fail
  refine (CT _).mono ?_; rintro e w1 ⟨rfl, rfl⟩
  go_wp2_with fail
  refine (CM _).mono ?_; rintro e w1 ⟨rfl, rfl⟩
  go_wp2_with fail
  have K1 : Hid (Kept w (w.alloc Z3) (.string ⟨#[]⟩) (.string ⟨#[]⟩) (.slice none 0 0)) := K0.out
  obtain ⟨w2, hw2⟩ : ∃ w2, w.alloc (.cells #[.string ⟨#[]⟩, .string ⟨#[]⟩, .slice none 0 0] 96) = w2 := ⟨_, rfl⟩
  rw [show w.alloc Z3 = w2 from hw2] at K1
  rw [hw2]
  clear hw2 K0
  go_cut [7] (fun s7 wx => ∃ g, s7 = .pointer (some ⟨g, 0, none⟩) ∧ Head w wx g LT LU (.slice none 0 0))
  case first =>
    have b0 : ∀ V : World, (V.alloc (.cells #[.string ⟨#[]⟩, .string ⟨#[]⟩, .slice none 0 0] 96)).cell? ⟨V.heap.size, 0, none⟩ = some (.string ⟨#[]⟩) := fun V => (box_zero V).c0
    have b1 : ∀ V : World, (V.alloc (.cells #[.string ⟨#[]⟩, .string ⟨#[]⟩, .slice none 0 0] 96)).cell? ⟨V.heap.size, 1, none⟩ = some (.string ⟨#[]⟩) := fun V => (box_zero V).c1
    have b2 : ∀ V : World, (V.alloc (.cells #[.string ⟨#[]⟩, .string ⟨#[]⟩, .slice none 0 0] 96)).cell? ⟨V.heap.size, 2, none⟩ = some (.slice none 0 0) := fun V => (box_zero V).c2
    have b3 : ∀ V : World, (V.alloc (.cells #[.string ⟨#[]⟩, .string ⟨#[]⟩, .slice none 0 0] 96)).frozen? ⟨V.heap.size, 0, none⟩ = false := fun V => (box_zero V).z0
    have b4 : ∀ V : World, (V.alloc (.cells #[.string ⟨#[]⟩, .string ⟨#[]⟩, .slice none 0 0] 96)).frozen? ⟨V.heap.size, 1, none⟩ = false := fun V => (box_zero V).z1
    have b5 : ∀ V : World, (V.alloc (.cells #[.string ⟨#[]⟩, .string ⟨#[]⟩, .slice none 0 0] 96)).frozen? ⟨V.heap.size, 2, none⟩ = false := fun V => (box_zero V).z2
    obtain ⟨q0, q1, q2, z0, z1, z2⟩ := K1.out.box
    clear CB CT CM CB2
    go_region_with (first
      | (go_at_call_of 47 S1; refine (CL1 _).mono ?_; rintro e wa ⟨rfl, hb1⟩; first | (obtain ⟨q0, q1, q2, z0, z1, z2⟩ : Box3 0 wa w2.heap.size (.string ⟨#[]⟩) (.string ⟨#[]⟩) (.slice none 0 0) := Box3.below (box_zero w2.drew) hb1 (by simp)) | skip)
      | (go_at_call_of 47 S2; refine (CL2 _).mono ?_; rintro e wb ⟨rfl, hb2⟩; first | (obtain ⟨q0, q1, q2, z0, z1, z2⟩ := Box3.below (box_zero _) hb2 (by simp)) | (obtain ⟨q0, q1, q2, z0, z1, z2⟩ := Box3.below (base := 0) ⟨q0, q1, q2, z0, z1, z2⟩ hb2 (lt_of_cell q0)) | skip))
    all_goals go_wp2_with fail
    all_goals go_meet
    all_goals first
      | exact ⟨_, rfl, head_first (K1.out.step (Below.refl _ w2).drew) hb1 hb2 LT LU⟩
      | exact ⟨_, rfl, head_second (K1.out.step (Below.refl _ w2).drew) hb1 hb2 LT LU⟩
      | exact ⟨_, rfl, head_third (K1.out.step (Below.refl _ w2).drew) hb1 hb2 LT LU⟩
  case rest =>
    obtain ⟨gm, rfl, hH⟩ := hcut
    have HH := Lib.hid hH
    clear hH CL1 CL2 CB CT CM sl1 sl2 ia c1 z1 z2 z3 z4 z5 q1 q2 q3 q4 q5 q6 q7 q8 hwr K1
    obtain ⟨i0, hi, hz0, hz1, hz2⟩ := info_parts infoItem
    have PC := fun k (hk : k ≤ s.size) w => rparam_any s k (by omega) hk w
    have RR : Hid (res = match parsC s.size (s.data.toList.drop k0) with | none => .bad 11 0 | some ps => if 8 < ps.length then .bad 15 0 else if twin ps then .bad 31 0 else .good LT LU ps) := by
      show _ = _
      rw [← hres.out]
      unfold mediaOf readC
      rw [if_neg (by omega), HY]
      simp only
      rw [SK.out, show s.data.toList.length = s.size from Array.length_toList]
      cases parsC s.size (s.data.toList.drop k0) with
      | none => rfl
      | some ps => rfl
    clear hres HY SK
    go_wp2_with fail
    refine (CB2 _).mono ?_; rintro e w1 ⟨rfl, rfl⟩
    go_wp2_with fail
    obtain ⟨B, hB⟩ : ∃ B, Hid (wc.heap.size = B) := ⟨_, rfl⟩
    obtain ⟨pc, hpc⟩ : ∃ pc, Hid (parsC s.size (s.data.toList.drop k0) = pc) := ⟨_, rfl⟩
    rw [hpc.out] at RR
    go_loopg [4] s.size (fun g t wr => ∃ (k : Nat) (acc : List It) (v : Value), t = .int .i64 k ∧ k ≤ s.size ∧ s.size ≤ k + g ∧ acc.length + g = s.size ∧ Hid (join acc (parsC g (s.data.toList.drop k)) = pc) ∧ Aside (Head w wr gm LT LU v ∧ wr.ownsRow B 122 3 v acc.length (flat acc) ∧ w.heap.size < B ∧ Below w.heap.size wc wr ∧ B ≤ wr.heap.size))
    case atStart =>
      refine ⟨k0, [], _, rfl, hk0, by omega, by simp, ?_, HH.out, World.ownsRow_nil _ _ _ _, by rw [← hB.out]; exact Nat.lt_trans HH.out.lo HH.out.hi, Below.refl _ _, by rw [← hB.out]; exact Nat.le_refl _⟩
      show join [] _ = _
      rw [hpc.out]
      cases pc with
      | none => rfl
      | some ps => rfl
    case round =>
      clear hpc CB2
      obtain ⟨k, acc, v, rfl, hk, hg, hal, hd, hA⟩ := hrel
      have y1 : (0 : Int) ≤ (k : Int) := by omega
      by_cases hlt : k < s.size
      · have y0 : (k : Int) < (s.size : Int) := by omega
        obtain ⟨g, hgk⟩ : ∃ g, gk = g + 1 := ⟨gk - 1, by omega⟩
        have PK := PC k hk
        have hd := hd.out
        have HD2 : Hid (join acc (match parC (s.data.toList.drop k) with | none => none | some (p, r) => match parsC g (skip r) with | none => none | some xs => some (p :: xs)) = pc) := by
          show _ = _
          rw [hgk] at hd
          unfold parsC at hd
          rw [if_neg (by rw [bytes_drop hlt]; simp)] at hd
          exact hd
        have EQ := parOf_C s k hk
        have PL := fun p r (h : parC (s.data.toList.drop k) = some (p, r)) => parC_lt h
        have LO := fun p r (h : parC (s.data.toList.drop k) = some (p, r)) => parC_low h
        have HLT : Hid (∀ p r, parC (s.data.toList.drop k) = some (p, r) → p.has = true ∧ s.size - (skip r).length ≤ s.size ∧ s.size ≤ s.size - (skip r).length + g ∧ skip r = s.data.toList.drop (s.size - (skip r).length)) := by
          intro p r h
          have h1 := PL p r h
          have h2 := skip_le r
          have hl : (s.data.toList.drop k).length = s.size - k := by rw [List.length_drop, Array.length_toList]; rfl
          rw [hl] at h1
          refine ⟨(LO p r h).2, Nat.sub_le _ _, by omega, ?_⟩
          obtain ⟨j, hj⟩ := parC_tail h
          rw [hj, List.drop_drop]
          exact skip_len s _
        have HGK := Lib.hid hgk
        clear hd PC PL LO hgk
        cases hc : parC (s.data.toList.drop k) with
        | none =>
          rw [hc] at EQ
          simp only at EQ
          rw [EQ] at PK
          simp only [parRes] at PK
          have V : Hid (res = .bad 11 0) := by
            have hd := HD2.out
            rw [hc] at hd
            show _ = _
            rw [RR.out, ← hd]; rfl
          clear EQ HD2 HLT hc RR
          go_wp2_with fail
          refine (PK _).mono ?_; rintro e w3 ⟨rfl, hb⟩
          have K3 : Hid (Kept w (w3.alloc (.cells #[.string ⟨#[]⟩, .string ⟨#[]⟩, .bool false] 122)) (.string ⟨#[]⟩) (.string ⟨#[]⟩) (.slice none 0 0)) := (hA.out.1.res.step hb).step ((Below.refl _ _).alloc (Nat.le_refl _) _)
          clear hb
          have KB : Hid (Below w.heap.size w (w3.alloc (.cells #[.string ⟨#[]⟩, .string ⟨#[]⟩, .bool false] 122))) := K3.out.below
          obtain ⟨r0, r1, r2, f0, f1, f2⟩ := K3.out.box
          clear K3
          obtain ⟨g4, hg4⟩ : ∃ g, Hid (w.heap.size = g) := ⟨_, rfl⟩
          rw [hg4.out] at r0 r1 r2 f0 f1 f2 ⊢
          go_wp2_with fail
          refine bodyPost_ret (v := .tuple #[.agg #[.string ⟨#[]⟩, .string ⟨#[]⟩, .slice none 0 0], .int .i64 11]) (by simp [results, Tryd.results44, go_sem, r0, r1, r2]) rfl ?_
          rw [V.out]
          refine ⟨_, _, _, rfl, from_nil _ _, ?_⟩
          have G : w.heap.size ≤ g4 := Nat.le_of_eq hg4.out
          repeat (first | exact KB.out | refine Below.setCell ?_ G _)
        | some x =>
          obtain ⟨p, r⟩ := x
          rw [hc] at EQ
          simp only at EQ
          rw [EQ] at PK
          simp only [parRes, It.pair] at PK
          obtain ⟨h1, h2, h3, h4⟩ := HLT.out p r hc
          have hd := HD2.out
          rw [hc] at hd
          simp only at hd
          rw [h4] at hd
          obtain ⟨t, ht⟩ : ∃ t, Hid (s.size - (skip r).length = t) := ⟨_, rfl⟩
          rw [ht.out] at PK h2 h3 hd
          obtain ⟨pn, pv, ph⟩ := p
          obtain rfl : ph = true := h1
          have V : Hid (join (acc ++ [It.mk pn pv true]) (parsC g (s.data.toList.drop t)) = pc) := by
            show _ = _
            rw [← hd]
            cases parsC g (s.data.toList.drop t) with
            | none => rfl
            | some xs => show some ((acc ++ [It.mk pn pv true]) ++ xs) = some (acc ++ It.mk pn pv true :: xs); rw [List.append_assoc]; rfl
          simp only at PK
          have hlen : acc.length ≤ 1000000 := by omega
          have x1 : ¬ (t : Int) < 0 := by omega
          clear EQ HD2 HLT hc h4 hd
          go_wp2_with fail
          refine (PK _).mono ?_; rintro e w3 ⟨rfl, hb⟩
          have A3 : Aside (Head w (w3.alloc (.cells #[.string pn, .string pv, .bool true] 122)) gm LT LU v ∧ (w3.alloc (.cells #[.string pn, .string pv, .bool true] 122)).ownsRow B 122 3 v acc.length (flat acc) ∧ w.heap.size < B ∧ Below w.heap.size wc (w3.alloc (.cells #[.string pn, .string pv, .bool true] 122)) ∧ B ≤ (w3.alloc (.cells #[.string pn, .string pv, .bool true] 122)).heap.size) := by
            have hs := hA.out.2.2.2.2
            have hw := hA.out.2.2.1
            have ho := own_below hA.out.2.1 hb
            have hz := hb.size
            refine ⟨(hA.out.1.below hb).below ((Below.refl _ _).alloc (Nat.le_refl _) _), ho.alloc _, hw, (hA.out.2.2.2.1.trans (hb.mono (by omega))).alloc (by omega) _, ?_⟩
            simp
            omega
          have hgB : Hid (gm < B) := by show _ < _; rw [← hB.out]; exact HH.out.hi
          have hBs : Hid (B ≤ (w3.alloc (.cells #[.string pn, .string pv, .bool true] 122)).heap.size) := A3.out.2.2.2.2
          clear hb hA
          have p2 := A3.out.1.box.c2
          go_wp2_with (at_builtin; refine push_item hi hz0 hz1 hz2 A3.out.2.1 _ _ _ hlen hBs.out rfl _ _ rfl rfl _ rfl (by simp) ?_)
          intro v' w5 hp
          obtain ⟨ad5, n5, c5, rfl⟩ := items_slice (own_from hp.own)
          have N : Aside (Head w (w5.setCell ⟨gm, 2, none⟩ (.slice ad5 n5 c5)) gm LT LU (.slice ad5 n5 c5) ∧ (w5.setCell ⟨gm, 2, none⟩ (.slice ad5 n5 c5)).ownsRow B 122 3 (.slice ad5 n5 c5) (acc ++ [It.mk pn pv true]).length (flat (acc ++ [It.mk pn pv true])) ∧ w.heap.size < B ∧ Below w.heap.size wc (w5.setCell ⟨gm, 2, none⟩ (.slice ad5 n5 c5)) ∧ B ≤ (w5.setCell ⟨gm, 2, none⟩ (.slice ad5 n5 c5)).heap.size) := by
            have h6 := A3.out.1.put hp.below hgB.out hBs.out (.slice ad5 n5 c5)
            refine ⟨h6, own_set hp.own _ hgB.out _, A3.out.2.2.1, (A3.out.2.2.2.1.trans (hp.below.mono (Nat.le_of_lt A3.out.2.2.1))).setCell (Nat.le_of_lt h6.lo) _, ?_⟩
            have := hp.below.size
            have := hBs.out
            simp
            omega
          have c2 : w5.cell? ⟨gm, 2, none⟩ = some v := (hp.below.cell (p := ⟨gm, 2, none⟩) hgB.out).trans p2
          have z2 : w5.frozen? ⟨gm, 2, none⟩ = false := (hp.below.frozen (p := ⟨gm, 2, none⟩) hgB.out).trans A3.out.1.box.z2
          clear hp A3 p2
          go_wp2_with fail
          go_roundg g
          case measure => have := HGK.out; omega
          case rel => exact ⟨t, acc ++ [It.mk pn pv true], _, rfl, h2, h3, by rw [List.length_append]; have := HGK.out; show _ + 1 + g = _; omega, V, N.out⟩
      · have y0 : ¬ (k : Int) < (s.size : Int) := by omega
        have PCE : Hid (pc = some acc) := by
          show _ = _
          rw [← hd.out, bytes_end (by omega)]
          have : parsC gk [] = some [] := by cases gk <;> rfl
          rw [this]
          show some (acc ++ []) = _
          rw [List.append_nil]
        have RR : Hid (res = if 8 < acc.length then .bad 15 0 else if twin acc then .bad 31 0 else .good LT LU acc) := by
          show _ = _
          rw [RR.out, PCE.out]
        have I1 := own_from hA.out.2.1
        obtain ⟨ad, n, c, rfl⟩ := items_slice I1
        have hln := I1.in.len
        have IT : Hid (ItemsFrom (w.heap.size + 1) wr (.slice ad n c) acc) := I1.mono hA.out.2.2.1
        have HL : Hid (acc.length = n) := hln.1
        have hn : n ≤ s.size := by rw [← hln.1]; omega
        have hd1 : Hid (Head w wr gm LT LU (.slice ad n c)) := hA.out.1
        clear hd PC PCE I1 hln hA HH hB hi hz0 hz1 hz2 hal hg
        have p2 := hd1.out.box.c2
        by_cases h8 : 8 < n
        · have y2 : (8 : Int) < (n : Int) := by omega
          have V : Hid (res = .bad 15 0) := by show _ = _; rw [RR.out, if_pos (by rw [HL.out]; exact h8)]
          have KB : Hid (Below w.heap.size w wr) := hd1.out.res.below
          obtain ⟨r0, r1, r2, f0, f1, f2⟩ := hd1.out.res.box
          obtain ⟨g4, hg4⟩ : ∃ g, Hid (w.heap.size = g) := ⟨_, rfl⟩
          rw [hg4.out] at r0 r1 r2 f0 f1 f2 ⊢
          clear h8 RR IT hd1
          go_wp2_with fail
          refine bodyPost_ret (v := .tuple #[.agg #[.string ⟨#[]⟩, .string ⟨#[]⟩, .slice none 0 0], .int .i64 15]) (by simp [results, Tryd.results44, go_sem, r0, r1, r2]) rfl ?_
          rw [V.out]
          refine ⟨_, _, _, rfl, from_nil _ _, ?_⟩
          have G : w.heap.size ≤ g4 := Nat.le_of_eq hg4.out
          repeat (first | exact KB.out | refine Below.setCell ?_ G _)
        · have y2 : ¬ (8 : Int) < (n : Int) := by omega
          have RR : Hid (res = if twin acc then .bad 31 0 else .good LT LU acc) := by show _ = _; rw [RR.out, if_neg (by rw [HL.out]; exact h8)]
          obtain ⟨wA, rfl⟩ : ∃ wA, wA = wr := ⟨_, rfl⟩
          clear h8
          go_wp2_with fail
          go_loopg [10] n (fun g t wx => ∃ i : Nat, t = .int .i64 i ∧ g + i = n ∧ Hid (∀ j k, k < j → j < i → (itAt acc k).name ≠ (itAt acc j).name) ∧ Aside (Below wA.heap.size wA wx))
          case atStart => exact ⟨0, rfl, rfl, fun j k _ hj => absurd hj (Nat.not_lt_zero _), Below.refl _ _⟩
          case round =>
            obtain ⟨i, rfl, hg, hd, hB⟩ := hrel
            have y3 : (0 : Int) ≤ (i : Int) := by omega
            have p2' := (hd1.out.below hB.out).box.c2
            by_cases hlt2 : i < n
            · have y4 : (i : Int) < (n : Int) := by omega
              have BW : Hid (Below wA.heap.size wA wr) := hB.out
              clear hB
              go_wp2_with fail
              go_loopg [11] i (fun g t wx => ∃ k : Nat, t = .int .i64 k ∧ g + k = i ∧ Hid (∀ j, j < k → (itAt acc j).name ≠ (itAt acc i).name) ∧ Aside (Below wA.heap.size wA wx))
              case atStart => exact ⟨0, rfl, rfl, fun j hj => absurd hj (Nat.not_lt_zero _), BW.out⟩
              case round =>
                obtain ⟨k2, rfl, hg2, hd2, hB⟩ := hrel
                have y5 : (0 : Int) ≤ (k2 : Int) := by omega
                have p2'' := (hd1.out.below hB.out).box.c2
                by_cases hlt3 : k2 < i
                · have y6 : (k2 : Int) < (i : Int) := by omega
                  have y7 : (k2 : Int) < (n : Int) := by omega
                  have hI := (IT.out.below hB.out).in
                  obtain ⟨bb, oo, rfl, c0, -, -⟩ := hI.at (k := k2) (by omega)
                  obtain ⟨bb', oo', e, c1, -, -⟩ := hI.at (k := i) hlt2
                  simp only [Option.some.injEq, Addr.mk.injEq] at e
                  obtain ⟨rfl, rfl, -⟩ := e
                  clear hI
                  have HN := str_same (itAt acc k2).name (itAt acc i).name
                  by_cases heq : (itAt acc k2).name = (itAt acc i).name
                  · rw [decide_eq_true heq] at HN
                    have V : Hid (res = .bad 31 0) := by
                      show _ = _
                      rw [RR.out, twin_yes ⟨i, k2, hlt3, by rw [HL.out]; exact hlt2, heq⟩, if_pos rfl]
                    have HD := hd1.out.below hB.out
                    have KB : Hid (Below w.heap.size w wr) := HD.res.below
                    obtain ⟨r0, r1, r2, f0, f1, f2⟩ := HD.res.box
                    obtain ⟨g4, hg4⟩ : ∃ g, Hid (w.heap.size = g) := ⟨_, rfl⟩
                    rw [hg4.out] at r0 r1 r2 f0 f1 f2 ⊢
                    clear HD heq hd2 hd RR IT
                    generalize (itAt acc k2).name = N1 at *
                    generalize (itAt acc i).name = N2 at *
                    go_wp2_with fail
                    go_quiet (fail)
                    go_wp2_with fail
                    refine bodyPost_ret (v := .tuple #[.agg #[.string ⟨#[]⟩, .string ⟨#[]⟩, .slice none 0 0], .int .i64 31]) (by simp [results, Tryd.results44, go_sem, r0, r1, r2]) rfl ?_
                    rw [V.out]
                    refine ⟨_, _, _, rfl, from_nil _ _, ?_⟩
                    have G : w.heap.size ≤ g4 := Nat.le_of_eq hg4.out
                    repeat (first | exact below_drewN KB.out _ | refine Below.setCell ?_ G _)
                  · rw [decide_eq_false heq] at HN
                    have NX : Hid (∀ j, j < k2 + 1 → (itAt acc j).name ≠ (itAt acc i).name) := fun j hj => by
                      by_cases e : j = k2
                      · rw [e]; exact heq
                      · exact hd2.out j (by omega)
                    clear heq hd2 hd RR IT
                    generalize (itAt acc k2).name = N1 at *
                    generalize (itAt acc i).name = N2 at *
                    go_wp2_with fail
                    go_quiet (fail)
                    go_wp2_with fail
                    go_roundg (gk - 1)
                    case measure => omega
                    case rel => exact ⟨k2 + 1, by go_num, by omega, NX.out, below_drewN hB.out _⟩
                · have y6 : ¬ (k2 : Int) < (i : Int) := by omega
                  have NX : Hid (∀ j k, k < j → j < i + 1 → (itAt acc k).name ≠ (itAt acc j).name) := fun j k hk hj => by
                    by_cases e : j = i
                    · rw [e]; exact hd2.out k (by omega)
                    · exact hd.out j k hk (by omega)
                  clear hd hd2
                  go_wp2_with fail
                  go_roundg (n - (i + 1))
                  case measure => omega
                  case rel => exact ⟨i + 1, by go_num, by omega, NX.out, hB.out⟩
            · have y4 : ¬ (i : Int) < (n : Int) := by omega
              have V : Hid (res = .good LT LU acc) := by
                show _ = _
                rw [RR.out, twin_no, if_neg (by decide)]
                rintro ⟨j, k, h1, h2, h3⟩
                rw [HL.out] at h2
                exact hd.out j k h1 (by omega) h3
              have HD := hd1.out.below hB.out
              have KB : Hid (Below w.heap.size w wr) := HD.res.below
              have I3 : Hid (ItemsFrom (w.heap.size + 1) wr (.slice ad n c) acc) := IT.out.below hB.out
              obtain ⟨r0, r1, r2, f0, f1, f2⟩ := HD.res.box
              obtain ⟨t0, t1, t2, -, -, -⟩ := HD.box
              obtain ⟨g4, hg4⟩ : ∃ g, Hid (w.heap.size = g) := ⟨_, rfl⟩
              rw [hg4.out] at r0 r1 r2 f0 f1 f2 ⊢
              clear HD hd RR IT
              go_wp2_with fail
              refine bodyPost_ret (v := .tuple #[.agg #[.string LT, .string LU, .slice ad n c], .int .i64 0]) (by simp [results, Tryd.results44, go_sem, r0, r1, r2]) rfl ?_
              rw [V.out]
              refine ⟨_, _, _, rfl, ?_, ?_⟩
              · have hh := hg4.out
                exact (((I3.out.setCell _ (by show g4 < _; omega) _).setCell _ (by show g4 < _; omega) _).setCell _ (by show g4 < _; omega) _).mono (Nat.le_succ _)
              · have G : w.heap.size ≤ g4 := Nat.le_of_eq hg4.out
                repeat (first | exact KB.out | refine Below.setCell ?_ G _)

theorem rparse_any (s : ByteArray) (hs : s.size ≤ 1000000) (w : World) :
    Calls Tryd.prog 44 #[.string s] w fun e w' => RMediaOut (mediaOf s) w e w' := by
  by_cases h1 : 1000 < s.size
  · have : mediaOf s = .bad 14 1000 := by unfold mediaOf; rw [if_pos h1]
    rw [this]
    exact rparse_long s hs h1 w
  · by_cases h : HeadOk s
    · exact rparse_pars s (by omega) h w
    · have : mediaOf s = .bad 11 0 := by unfold mediaOf readC; rw [if_neg h1, head_no h]
      rw [this]
      exact rparse_head s hs h1 h w
end Go.Proofs.YtelofhplpeeplaaDoor.media
