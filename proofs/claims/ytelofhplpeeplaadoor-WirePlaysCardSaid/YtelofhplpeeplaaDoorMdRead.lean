/- media.read. -/
import Derived.Test.YtelofhplpeeplaaDoorMdPars
set_option linter.unusedSimpArgs false
set_option linter.unusedVariables false
namespace Go.Proofs.YtelofhplpeeplaaDoor.media
open Go.RowKit Go.Proofs.YtelofhplpeeplaaDoor.errs

/-- What reading a kind's text answers. -/
def ReadOut (o : Option ((ByteArray × ByteArray) × List It)) (w : World) (e : Ending) (w' : World) : Prop :=
  ∃ (t u : ByteArray) (ad : Option Addr) (n c : Nat) (ok : Bool), e = .returned (.tuple #[.agg #[.string t, .string u, .slice ad n c], .bool ok]) ∧ Below w.heap.size w w' ∧
    (match o with | none => ok = false | some ((t', u'), ps) => t = t' ∧ u = u' ∧ ok = true ∧ ItemsFrom w.heap.size w' (.slice ad n c) ps)

theorem ItemsFrom.mono {B B' : Nat} {w : World} {v : Value} {ps : List It} (h : ItemsFrom B w v ps) (hB : B' ≤ B) : ItemsFrom B' w v ps := by
  obtain ⟨a, cap, rfl, h1, h2, h3⟩ := h
  refine ⟨a, cap, rfl, h1, h2, fun h => ?_⟩
  obtain ⟨b, o, rfl, hb2, hC⟩ := h3 h
  exact ⟨b, o, rfl, Nat.le_trans hB hb2, hC⟩

def withHead (x : ByteArray × ByteArray) : Option (List It) → Option ((ByteArray × ByteArray) × List It)
  | none => none
  | some ps => some (x, ps)
def ListOk (o : Option (List It)) (B : Nat) (w : World) (v : Value) (ok : Bool) : Prop := match o with | none => ok = false | some ps => ok = true ∧ ItemsFrom B w v ps
theorem ListOk.mono {o : Option (List It)} {B B' : Nat} {w : World} {v : Value} {ok : Bool} (h : ListOk o B w v ok) (hB : B' ≤ B) : ListOk o B' w v ok := by
  cases o with
  | none => exact h
  | some ps => exact ⟨h.1, h.2.mono hB⟩
theorem ListOk.below {o : Option (List It)} {B : Nat} {w w' : World} {v : Value} {ok : Bool} (h : ListOk o B w v ok) (hb : Below w.heap.size w w') : ListOk o B w' v ok := by
  cases o with
  | none => exact h
  | some ps => exact ⟨h.1, h.2.below hb⟩

set_option maxRecDepth 100000 in
set_option maxHeartbeats 1000000 in
theorem read_any (l : List UInt8) (hl : l.length ≤ 1000000) (w : World) :
    Calls Tryd.prog 61 #[.string (T l)] w fun e w' => ReadOut (readC l) w e w' := by
  have CL := fun w => trimLeft_any l w
  have hsk := skip_le l
  have CT := fun w => cutToken_any (skip l) (by omega) w
  unfold readC headC
  cases ht : tokC (skip l) with
  | none =>
    rw [ht] at CT
    simp only [cutV] at CT
    simp only
    clear ht hsk
    generalize T l = R at *
    generalize T (skip l) = R2 at *
    go_enter Tryd.func61, Tryd.ntmps61
    have K0 : Hid (Kept w (w.alloc (.cells #[.string ⟨#[]⟩, .string ⟨#[]⟩, .slice none 0 0] 96)) (.string ⟨#[]⟩) (.string ⟨#[]⟩) (.slice none 0 0)) := Kept.new w _ _ _ _
    go_wp2_with fail
    refine (CL _).mono ?_; rintro e w2 ⟨rfl, hb⟩
    have K1 : Hid (Kept w w2 (.string ⟨#[]⟩) (.string ⟨#[]⟩) (.slice none 0 0)) := K0.out.step hb
    clear hb K0
    go_wp2_with fail
    refine (CT _).mono ?_; rintro e w3 ⟨rfl, hb⟩
    have K2 : Hid (Kept w w3 (.string ⟨#[]⟩) (.string ⟨#[]⟩) (.slice none 0 0)) := K1.out.step hb
    clear hb K1
    have KB : Hid (Below w.heap.size w w3) := K2.out.below
    obtain ⟨r0, r1, r2, f0, f1, f2⟩ := K2.out.box
    obtain ⟨g4, hg4⟩ : ∃ g, Hid (w.heap.size = g) := ⟨_, rfl⟩
    rw [hg4.out] at r0 r1 r2 f0 f1 f2 ⊢
    clear K2
    go_wp2_with fail
    refine bodyPost_ret (v := .tuple #[.agg #[.string ⟨#[]⟩, .string ⟨#[]⟩, .slice none 0 0], .bool false]) (by simp [results, Tryd.results61, go_sem, r0, r1, r2]) rfl ⟨_, _, _, _, _, _, rfl, ?_, rfl⟩
    have G : w.heap.size ≤ g4 := Nat.le_of_eq hg4.out
    repeat (first | exact KB.out | refine Below.setCell ?_ G _)
  | some nr =>
    obtain ⟨n, r1⟩ := nr
    rw [ht] at CT
    simp only [cutV] at CT
    simp only
    have hn := (tokC_lt ht).2.1
    have CQ : ∀ w, Calls Tryd.prog 72 #[.string (T r1), .string ⟨#[47]⟩] w fun e w' => e = .returned (mustV r1 (must 47 r1)) ∧ w = w' := cutPrefix_any 47 r1
    clear ht
    cases hq : must 47 r1 with
    | none =>
      rw [hq] at CQ
      simp only [mustV] at CQ
      simp only
      clear hq hn hsk
      generalize T l = R at *
      generalize T (skip l) = R2 at *
      generalize T r1 = R3 at *
      generalize T n = N at *
      go_enter Tryd.func61, Tryd.ntmps61
      have K0 : Hid (Kept w (w.alloc (.cells #[.string ⟨#[]⟩, .string ⟨#[]⟩, .slice none 0 0] 96)) (.string ⟨#[]⟩) (.string ⟨#[]⟩) (.slice none 0 0)) := Kept.new w _ _ _ _
      go_wp2_with fail
      refine (CL _).mono ?_; rintro e w2 ⟨rfl, hb⟩
      have K1 : Hid (Kept w w2 (.string ⟨#[]⟩) (.string ⟨#[]⟩) (.slice none 0 0)) := K0.out.step hb
      clear hb K0
      go_wp2_with fail
      refine (CT _).mono ?_; rintro e w3 ⟨rfl, hb⟩
      have K2 : Hid (Kept w w3 (.string ⟨#[]⟩) (.string ⟨#[]⟩) (.slice none 0 0)) := K1.out.step hb
      clear hb K1
      go_wp2_with fail
      refine (CQ _).mono ?_; rintro e w4 ⟨rfl, rfl⟩
      have KB : Hid (Below w.heap.size w w3) := K2.out.below
      obtain ⟨r0, r1', r2, f0, f1, f2⟩ := K2.out.box
      obtain ⟨g4, hg4⟩ : ∃ g, Hid (w.heap.size = g) := ⟨_, rfl⟩
      rw [hg4.out] at r0 r1' r2 f0 f1 f2 ⊢
      clear K2
      go_wp2_with fail
      refine bodyPost_ret (v := .tuple #[.agg #[.string ⟨#[]⟩, .string ⟨#[]⟩, .slice none 0 0], .bool false]) (by simp [results, Tryd.results61, go_sem, r0, r1', r2]) rfl ⟨_, _, _, _, _, _, rfl, ?_, rfl⟩
      have G : w.heap.size ≤ g4 := Nat.le_of_eq hg4.out
      repeat (first | exact KB.out | refine Below.setCell ?_ G _)
    | some r2 =>
      rw [hq] at CQ
      simp only [mustV] at CQ
      simp only
      have hr2 : r2.length + 1 = r1.length := by rw [must_some hq, List.length_cons]
      have CT2 := fun w => cutToken_any r2 (by omega) w
      clear hq
      cases hu : tokC r2 with
      | none =>
        rw [hu] at CT2
        simp only [cutV] at CT2
        simp only
        clear hu hn hsk hr2
        generalize T l = R at *
        generalize T (skip l) = R2 at *
        generalize T r1 = R3 at *
        generalize T r2 = R4 at *
        generalize T n = N at *
        go_enter Tryd.func61, Tryd.ntmps61
        have K0 : Hid (Kept w (w.alloc (.cells #[.string ⟨#[]⟩, .string ⟨#[]⟩, .slice none 0 0] 96)) (.string ⟨#[]⟩) (.string ⟨#[]⟩) (.slice none 0 0)) := Kept.new w _ _ _ _
        go_wp2_with fail
        refine (CL _).mono ?_; rintro e w2 ⟨rfl, hb⟩
        have K1 : Hid (Kept w w2 (.string ⟨#[]⟩) (.string ⟨#[]⟩) (.slice none 0 0)) := K0.out.step hb
        clear hb K0
        go_wp2_with fail
        refine (CT _).mono ?_; rintro e w3 ⟨rfl, hb⟩
        have K2 : Hid (Kept w w3 (.string ⟨#[]⟩) (.string ⟨#[]⟩) (.slice none 0 0)) := K1.out.step hb
        clear hb K1
        go_wp2_with fail
        refine (CQ _).mono ?_; rintro e w4 ⟨rfl, rfl⟩
        go_wp2_with fail
        refine (CT2 _).mono ?_; rintro e w5 ⟨rfl, hb⟩
        have K3 : Hid (Kept w w5 (.string ⟨#[]⟩) (.string ⟨#[]⟩) (.slice none 0 0)) := K2.out.step hb
        clear hb K2
        have KB : Hid (Below w.heap.size w w5) := K3.out.below
        obtain ⟨r0, r1', r2', f0, f1, f2⟩ := K3.out.box
        obtain ⟨g4, hg4⟩ : ∃ g, Hid (w.heap.size = g) := ⟨_, rfl⟩
        rw [hg4.out] at r0 r1' r2' f0 f1 f2 ⊢
        clear K3
        go_wp2_with fail
        refine bodyPost_ret (v := .tuple #[.agg #[.string ⟨#[]⟩, .string ⟨#[]⟩, .slice none 0 0], .bool false]) (by simp [results, Tryd.results61, go_sem, r0, r1', r2']) rfl ⟨_, _, _, _, _, _, rfl, ?_, rfl⟩
        have G : w.heap.size ≤ g4 := Nat.le_of_eq hg4.out
        repeat (first | exact KB.out | refine Below.setCell ?_ G _)
      | some um =>
        obtain ⟨m, r3⟩ := um
        rw [hu] at CT2
        simp only [cutV] at CT2
        simp only
        have hm := (tokC_lt hu).2.1
        have CP := fun w => readParams_any r3 l.length (by omega) hl w
        have CF1 := fun w => folded_any (T n) (by rw [T_size]; omega) w
        have CF2 := fun w => folded_any (T m) (by rw [T_size]; omega) w
        clear hu hn hsk hr2 hm
        have key : ∀ (o : Option (List It)), parsC l.length (skip r3) = o → Calls Tryd.prog 61 #[.string (T l)] w fun e w' => ReadOut (withHead (lowS (T n), lowS (T m)) o) w e w' := by
          intro o ho
          rw [ho] at CP
          clear ho
          obtain ⟨LN, hLN⟩ : ∃ LN, Hid (lowS (T n) = LN) := ⟨_, rfl⟩
          obtain ⟨LM, hLM⟩ : ∃ LM, Hid (lowS (T m) = LM) := ⟨_, rfl⟩
          rw [hLN.out] at CF1 ⊢
          rw [hLM.out] at CF2 ⊢
          generalize T l = R at *
          generalize T (skip l) = R2 at *
          generalize T r1 = R3 at *
          generalize T r2 = R4 at *
          generalize T r3 = R5 at *
          generalize T n = N at *
          generalize T m = M at *
          go_enter Tryd.func61, Tryd.ntmps61
          have K0 : Hid (Kept w (w.alloc (.cells #[.string ⟨#[]⟩, .string ⟨#[]⟩, .slice none 0 0] 96)) (.string ⟨#[]⟩) (.string ⟨#[]⟩) (.slice none 0 0)) := Kept.new w _ _ _ _
          go_wp2_with fail
          refine (CL _).mono ?_; rintro e w2 ⟨rfl, hb⟩
          have K1 : Hid (Kept w w2 (.string ⟨#[]⟩) (.string ⟨#[]⟩) (.slice none 0 0)) := K0.out.step hb
          clear hb K0
          go_wp2_with fail
          refine (CT _).mono ?_; rintro e w3 ⟨rfl, hb⟩
          have K2 : Hid (Kept w w3 (.string ⟨#[]⟩) (.string ⟨#[]⟩) (.slice none 0 0)) := K1.out.step hb
          clear hb K1
          go_wp2_with fail
          refine (CQ _).mono ?_; rintro e w4 ⟨rfl, rfl⟩
          go_wp2_with fail
          refine (CT2 _).mono ?_; rintro e w5 ⟨rfl, hb⟩
          have K3 : Hid (Kept w w5 (.string ⟨#[]⟩) (.string ⟨#[]⟩) (.slice none 0 0)) := K2.out.step hb
          clear hb K2
          go_wp2_with fail
          refine (CP _).mono ?_; rintro e w6 ⟨v, ok, rfl, hb, ⟨ad, k, c, rfl⟩, hP⟩
          have K4 : Hid (Kept w w6 (.string ⟨#[]⟩) (.string ⟨#[]⟩) (.slice none 0 0)) := K3.out.step hb
          have P4 : Hid (ListOk o (w.heap.size + 1) w6 (.slice ad k c) ok) := ListOk.mono hP K3.out.lt
          clear hb K3 hP
          go_wp2_with fail
          refine (CF1 _).mono ?_; rintro e w7 ⟨rfl, hb⟩
          have K5 : Hid (Kept w w7 (.string ⟨#[]⟩) (.string ⟨#[]⟩) (.slice none 0 0) ∧ Below w6.heap.size w6 w7) := ⟨K4.out.step hb, hb⟩
          clear hb K4
          go_wp2_with fail
          refine (CF2 _).mono ?_; rintro e w8 ⟨rfl, hb⟩
          have K6 : Hid (Kept w w8 (.string ⟨#[]⟩) (.string ⟨#[]⟩) (.slice none 0 0)) := K5.out.1.step hb
          have P6 : Hid (ListOk o (w.heap.size + 1) w8 (.slice ad k c) ok) := (P4.out.below K5.out.2).below hb
          clear hb K5 P4
          have KB : Hid (Below w.heap.size w w8) := K6.out.below
          obtain ⟨r0, r1', r2', f0, f1, f2⟩ := K6.out.box
          obtain ⟨g4, hg4⟩ : ∃ g, Hid (w.heap.size = g) := ⟨_, rfl⟩
          rw [hg4.out] at r0 r1' r2' f0 f1 f2 ⊢
          clear K6
          go_wp2_with fail
          refine bodyPost_ret (v := .tuple #[.agg #[.string LN, .string LM, .slice ad k c], .bool ok]) (by simp [results, Tryd.results61, go_sem, r0, r1', r2']) rfl ⟨_, _, _, _, _, _, rfl, ?_, ?_⟩
          · have G : w.heap.size ≤ g4 := Nat.le_of_eq hg4.out
            repeat (first | exact KB.out | refine Below.setCell ?_ G _)
          · have hP := P6.out
            cases o with
            | none => exact hP
            | some ps =>
              refine ⟨rfl, rfl, hP.1, ?_⟩
              have hh := hg4.out
              exact (((hP.2.setCell _ (by show g4 < _; omega) _).setCell _ (by show g4 < _; omega) _).setCell _ (by show g4 < _; omega) _).mono (Nat.le_succ _)
        cases ho : parsC l.length (skip r3) with
        | none => exact key none ho
        | some ps => exact key (some ps) ho
end Go.Proofs.YtelofhplpeeplaaDoor.media
