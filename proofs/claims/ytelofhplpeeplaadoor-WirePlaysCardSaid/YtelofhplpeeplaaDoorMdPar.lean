/- media.cutParam. -/
import Derived.Test.YtelofhplpeeplaaDoorMdValue
set_option linter.unusedSimpArgs false
set_option linter.unusedVariables false
namespace Go.Proofs.YtelofhplpeeplaaDoor.media
open Go.RowKit Go.Proofs.YtelofhplpeeplaaDoor.errs

/-- A block of three cells laid over what stood, and what stood. -/
structure Kept (w wi : World) (x y z : Value) : Prop where
  box : Box3 0 wi w.heap.size x y z
  below : Below w.heap.size w wi
  lt : w.heap.size < wi.heap.size
theorem Kept.new (w : World) (x y z : Value) (t : TypeId) : Kept w (w.alloc (.cells #[x, y, z] t)) x y z :=
  ⟨⟨by simp, by simp, by simp, by simp, by simp, by simp⟩, (Below.refl _ _).alloc (Nat.le_refl _) _, by simp⟩
theorem Kept.step {w wi wj : World} {x y z : Value} (h : Kept w wi x y z) (hb : Below wi.heap.size wi wj) : Kept w wj x y z :=
  ⟨h.box.below hb h.lt, h.below.trans (hb.mono (Nat.le_of_lt h.lt)), Nat.lt_of_lt_of_le h.lt hb.size⟩

/-- What a parameter's cut answers. -/
def ParOut (o : Option (It × List UInt8)) (w : World) (e : Ending) (w' : World) : Prop :=
  ∃ (a b : ByteArray) (h : Bool) (r : ByteArray) (ok : Bool), e = .returned (.tuple #[.agg #[.string a, .string b, .bool h], .string r, .bool ok]) ∧ Below w.heap.size w w' ∧
    (match o with | none => ok = false | some (p, l) => a = p.name ∧ b = p.value ∧ h = p.has ∧ r = T l ∧ ok = true)

set_option maxRecDepth 100000 in
set_option maxHeartbeats 1000000 in
theorem cutParam_any (l : List UInt8) (hl : l.length ≤ 1000000) (w : World) :
    Calls Tryd.prog 84 #[.string (T l)] w fun e w' => ParOut (parC l) w e w' := by
  have CP : ∀ w, Calls Tryd.prog 72 #[.string (T l), .string ⟨#[59]⟩] w fun e w' => e = .returned (mustV l (must 59 l)) ∧ w = w' := cutPrefix_any 59 l
  unfold parC
  cases hm : must 59 l with
  | none =>
    rw [hm] at CP
    simp only [mustV] at CP
    simp only
    clear hm
    generalize T l = R at *
    go_enter Tryd.func84, Tryd.ntmps84
    go_wp2_with fail
    refine (CP _).mono ?_; rintro e w1 ⟨rfl, rfl⟩
    go_wp2_with fail
    refine bodyPost_ret (v := .tuple #[.agg #[.string ⟨#[]⟩, .string ⟨#[]⟩, .bool false], .string ⟨#[]⟩, .bool false]) (by simp [results, Tryd.results84, go_sem]) rfl ⟨_, _, _, _, _, rfl, ?_, rfl⟩
    exact (Below.refl _ _).alloc (Nat.le_refl _) _
  | some r =>
    rw [hm] at CP
    simp only [mustV] at CP
    simp only
    have hr : r.length + 1 = l.length := by rw [must_some hm, List.length_cons]
    have CL := fun w => trimLeft_any r w
    have hsk := skip_le r
    have CT := fun w => cutToken_any (skip r) (by omega) w
    clear hm
    cases ht : tokC (skip r) with
    | none =>
      rw [ht] at CT
      simp only [cutV] at CT
      simp only
      clear ht hr hsk
      generalize T l = R at *
      generalize T r = R1 at *
      generalize T (skip r) = R2 at *
      go_enter Tryd.func84, Tryd.ntmps84
      go_wp2_with fail
      refine (CP _).mono ?_; rintro e w1 ⟨rfl, rfl⟩
      have K0 : Hid (Kept w (w.alloc (.cells #[.string ⟨#[]⟩, .string ⟨#[]⟩, .bool false] 122)) (.string ⟨#[]⟩) (.string ⟨#[]⟩) (.bool false)) := Kept.new w _ _ _ _
      go_wp2_with fail
      refine (CL _).mono ?_; rintro e w2 ⟨rfl, hb⟩
      have K1 : Hid (Kept w w2 (.string ⟨#[]⟩) (.string ⟨#[]⟩) (.bool false)) := K0.out.step hb
      clear hb K0
      go_wp2_with fail
      refine (CT _).mono ?_; rintro e w3 ⟨rfl, hb⟩
      have K2 : Hid (Kept w w3 (.string ⟨#[]⟩) (.string ⟨#[]⟩) (.bool false)) := K1.out.step hb
      clear hb K1
      have KB : Hid (Below w.heap.size w w3) := K2.out.below
      obtain ⟨r0, r1, r2, f0, f1, f2⟩ := K2.out.box
      obtain ⟨g4, hg4⟩ : ∃ g, Hid (w.heap.size = g) := ⟨_, rfl⟩
      rw [hg4.out] at r0 r1 r2 f0 f1 f2 ⊢
      clear K2
      go_wp2_with fail
      refine bodyPost_ret (v := .tuple #[.agg #[.string ⟨#[]⟩, .string ⟨#[]⟩, .bool false], .string ⟨#[]⟩, .bool false]) (by simp [results, Tryd.results84, go_sem, r0, r1, r2]) rfl ⟨_, _, _, _, _, rfl, ?_, rfl⟩
      have G : w.heap.size ≤ g4 := Nat.le_of_eq hg4.out
      repeat (first | exact KB.out | refine Below.setCell ?_ G _)
    | some nr =>
      obtain ⟨n, r1⟩ := nr
      rw [ht] at CT
      simp only [cutV] at CT
      simp only
      have hn := (tokC_lt ht).2.1
      have CQ : ∀ w, Calls Tryd.prog 72 #[.string (T r1), .string ⟨#[61]⟩] w fun e w' => e = .returned (mustV r1 (must 61 r1)) ∧ w = w' := cutPrefix_any 61 r1
      clear ht
      cases hq : must 61 r1 with
      | none =>
        rw [hq] at CQ
        simp only [mustV] at CQ
        simp only
        clear hq hn hr hsk
        generalize T l = R at *
        generalize T r = R1 at *
        generalize T (skip r) = R2 at *
        generalize T r1 = R3 at *
        generalize T n = N at *
        go_enter Tryd.func84, Tryd.ntmps84
        go_wp2_with fail
        refine (CP _).mono ?_; rintro e w1 ⟨rfl, rfl⟩
        have K0 : Hid (Kept w (w.alloc (.cells #[.string ⟨#[]⟩, .string ⟨#[]⟩, .bool false] 122)) (.string ⟨#[]⟩) (.string ⟨#[]⟩) (.bool false)) := Kept.new w _ _ _ _
        go_wp2_with fail
        refine (CL _).mono ?_; rintro e w2 ⟨rfl, hb⟩
        have K1 : Hid (Kept w w2 (.string ⟨#[]⟩) (.string ⟨#[]⟩) (.bool false)) := K0.out.step hb
        clear hb K0
        go_wp2_with fail
        refine (CT _).mono ?_; rintro e w3 ⟨rfl, hb⟩
        have K2 : Hid (Kept w w3 (.string ⟨#[]⟩) (.string ⟨#[]⟩) (.bool false)) := K1.out.step hb
        clear hb K1
        go_wp2_with fail
        refine (CQ _).mono ?_; rintro e w4 ⟨rfl, rfl⟩
        have KB : Hid (Below w.heap.size w w3) := K2.out.below
        obtain ⟨r0, r1', r2, f0, f1, f2⟩ := K2.out.box
        obtain ⟨g4, hg4⟩ : ∃ g, Hid (w.heap.size = g) := ⟨_, rfl⟩
        rw [hg4.out] at r0 r1' r2 f0 f1 f2 ⊢
        clear K2
        go_wp2_with fail
        refine bodyPost_ret (v := .tuple #[.agg #[.string ⟨#[]⟩, .string ⟨#[]⟩, .bool false], .string ⟨#[]⟩, .bool false]) (by simp [results, Tryd.results84, go_sem, r0, r1', r2]) rfl ⟨_, _, _, _, _, rfl, ?_, rfl⟩
        have G : w.heap.size ≤ g4 := Nat.le_of_eq hg4.out
        repeat (first | exact KB.out | refine Below.setCell ?_ G _)
      | some r2 =>
        rw [hq] at CQ
        simp only [mustV] at CQ
        simp only
        have hr2 : r2.length + 1 = r1.length := by rw [must_some hq, List.length_cons]
        have CV := fun w => cutValue_any r2 (by omega) w
        have CF := fun w => folded_any (T n) (by rw [T_size]; omega) w
        clear hq hn hr hsk hr2
        have key : ∀ (va vb : ByteArray) (vo : Bool) (res : Option (It × List UInt8)), (∀ w, Calls Tryd.prog 91 #[.string (T r2)] w fun e w' => e = .returned (.tuple #[.string va, .string vb, .bool vo]) ∧ Below w.heap.size w w') →
            Hid (∀ e w' (N : ByteArray), N = lowS (T n) → Below w.heap.size w w' → e = .returned (.tuple #[.agg #[.string N, .string va, .bool true], .string vb, .bool vo]) → ParOut res w e w') →
            Calls Tryd.prog 84 #[.string (T l)] w fun e w' => ParOut res w e w' := by
          intro va vb vo res CV END
          obtain ⟨LN, hLN⟩ : ∃ LN, Hid (LN = lowS (T n)) := ⟨_, rfl⟩
          have CF : ∀ w, Calls Tryd.prog 66 #[.string (T n)] w fun e w' => e = .returned (.string LN) ∧ Below w.heap.size w w' := by rw [hLN.out]; exact CF
          generalize T l = R at *
          generalize T r = R1 at *
          generalize T (skip r) = R2 at *
          generalize T r1 = R3 at *
          generalize T r2 = R4 at *
          generalize T n = N at *
          go_enter Tryd.func84, Tryd.ntmps84
          go_wp2_with fail
          refine (CP _).mono ?_; rintro e w1 ⟨rfl, rfl⟩
          have K0 : Hid (Kept w (w.alloc (.cells #[.string ⟨#[]⟩, .string ⟨#[]⟩, .bool false] 122)) (.string ⟨#[]⟩) (.string ⟨#[]⟩) (.bool false)) := Kept.new w _ _ _ _
          go_wp2_with fail
          refine (CL _).mono ?_; rintro e w2 ⟨rfl, hb⟩
          have K1 : Hid (Kept w w2 (.string ⟨#[]⟩) (.string ⟨#[]⟩) (.bool false)) := K0.out.step hb
          clear hb K0
          go_wp2_with fail
          refine (CT _).mono ?_; rintro e w3 ⟨rfl, hb⟩
          have K2 : Hid (Kept w w3 (.string ⟨#[]⟩) (.string ⟨#[]⟩) (.bool false)) := K1.out.step hb
          clear hb K1
          go_wp2_with fail
          refine (CQ _).mono ?_; rintro e w4 ⟨rfl, rfl⟩
          go_wp2_with fail
          refine (CV _).mono ?_; rintro e w5 ⟨rfl, hb⟩
          have K3 : Hid (Kept w w5 (.string ⟨#[]⟩) (.string ⟨#[]⟩) (.bool false)) := K2.out.step hb
          clear hb K2
          go_wp2_with fail
          refine (CF _).mono ?_; rintro e w6 ⟨rfl, hb⟩
          have K4 : Hid (Kept w w6 (.string ⟨#[]⟩) (.string ⟨#[]⟩) (.bool false)) := K3.out.step hb
          clear hb K3
          have KB : Hid (Below w.heap.size w w6) := K4.out.below
          obtain ⟨r0, r1', r2', f0, f1, f2⟩ := K4.out.box
          obtain ⟨g4, hg4⟩ : ∃ g, Hid (w.heap.size = g) := ⟨_, rfl⟩
          rw [hg4.out] at r0 r1' r2' f0 f1 f2 ⊢
          clear K4
          go_wp2_with fail
          refine bodyPost_ret (v := .tuple #[.agg #[.string LN, .string va, .bool true], .string vb, .bool vo]) (by simp [results, Tryd.results84, go_sem, r0, r1', r2']) rfl (END.out _ _ _ hLN.out ?_ rfl)
          have G : w.heap.size ≤ g4 := Nat.le_of_eq hg4.out
          repeat (first | exact KB.out | refine Below.setCell ?_ G _)
        cases hc : valC r2 with
        | none =>
          rw [hc] at CV
          exact key _ _ _ none CV (fun e w' N hN hb he => ⟨_, _, _, _, _, he, hb, rfl⟩)
        | some x =>
          obtain ⟨v, r3⟩ := x
          rw [hc] at CV
          exact key _ _ _ (some _) CV (fun e w' N hN hb he => ⟨_, _, _, _, _, he, hb, hN, rfl, rfl, rfl, rfl⟩)
end Go.Proofs.YtelofhplpeeplaaDoor.media
