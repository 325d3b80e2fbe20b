/- The document's parameter at a place. -/
import Derived.Test.YtelofhplpeeplaaDoorMdLower
set_option linter.unusedSimpArgs false
set_option linter.unusedVariables false
namespace Go.Proofs.YtelofhplpeeplaaDoor.media
open Go.RowKit Go.Proofs.YtelofhplpeeplaaDoor.errs Go.Proofs.YtelofhplpeeplaaDoor.gmath Go.Proofs.YtelofhplpeeplaaDoor.glref

/-- The value at a place, and the place behind it. -/
def valOf (s : ByteArray) (b : Nat) : Option (ByteArray × Nat) :=
  if b < s.size ∧ s.get! b = 34 then (match unq [] (s.data.toList.drop (b + 1)) with | none => none | some (v, r) => some (⟨v.toArray⟩, s.size - r.length))
  else if 1 ≤ spanN inTok (s.data.toList.drop b) ∧ spanN inTok (s.data.toList.drop b) ≤ 100 then some (s.extract b (b + spanN inTok (s.data.toList.drop b)), b + spanN inTok (s.data.toList.drop b)) else none
def nameAt (s : ByteArray) (i : Nat) : Nat := i + 1 + spanN isBl (s.data.toList.drop (i + 1))
def nameN (s : ByteArray) (i : Nat) : Nat := spanN inTok (s.data.toList.drop (nameAt s i))
def parOf (s : ByteArray) (i : Nat) : Option ((ByteArray × ByteArray) × Nat) :=
  if i < s.size ∧ s.get! i = 59 then
    (if (1 ≤ nameN s i ∧ nameN s i ≤ 100) ∧ (nameAt s i + nameN s i < s.size ∧ s.get! (nameAt s i + nameN s i) = 61) then
      (match valOf s (nameAt s i + nameN s i + 1) with
        | none => none
        | some (v, to') => some ((lowS (s.extract (nameAt s i) (nameAt s i + nameN s i)), v), to' + spanN isBl (s.data.toList.drop to')))
    else none)
  else none
def parRes : Option ((ByteArray × ByteArray) × Nat) → Value × Int
  | none => (.agg #[.string ⟨#[]⟩, .string ⟨#[]⟩, .bool false], -1)
  | some ((n, v), to') => (.agg #[.string n, .string v, .bool true], to')

set_option maxRecDepth 100000 in
set_option maxHeartbeats 1000000 in
theorem rparam_none (s : ByteArray) (i : Nat) (hs : s.size ≤ 1000000) (hi : i ≤ s.size) (h : ¬ (i < s.size ∧ s.get! i = 59)) (w : World) :
    Calls Tryd.prog 58 #[.string s, .int .i64 i] w fun e w' => e = .returned (.tuple #[.agg #[.string ⟨#[]⟩, .string ⟨#[]⟩, .bool false], .int .i64 (-1)]) ∧ Below w.heap.size w w' := by
  have y1 : (0 : Int) ≤ (i : Int) := by omega
  by_cases hlt : i < s.size
  · have y0 : ¬ (s.size : Int) ≤ (i : Int) := by omega
    have y2 : (i : Int) < (s.size : Int) := by omega
    have ix := byte_at s i hlt
    have b1 := eq_byte (s.get! i) 59
    simp only [show ((59 : UInt8).toNat : Int) = 59 from rfl] at b1
    rw [decide_eq_false (fun e => h ⟨hlt, e⟩)] at b1
    have b2 : ((s.get! i).toNat : Int) ≠ 59 := fun e => by rw [beq_iff_eq.2 e] at b1; cases b1
    have b3 : (((s.get! i).toNat : Int) != 59) = true := by rw [bne_iff_ne]; exact b2
    clear h
    generalize s.get! i = d at *
    go_enter Tryd.func58, Tryd.ntmps58
    go_wp2_with fail
    refine bodyPost_ret (v := .tuple #[.agg #[.string ⟨#[]⟩, .string ⟨#[]⟩, .bool false], .int .i64 (-1)]) (by simp [results, Tryd.results58, go_sem]) rfl ⟨rfl, ?_⟩
    exact (Below.refl _ _).alloc (Nat.le_refl _) _
  · have y0 : (s.size : Int) ≤ (i : Int) := by omega
    clear h
    go_enter Tryd.func58, Tryd.ntmps58
    go_wp2_with fail
    refine bodyPost_ret (v := .tuple #[.agg #[.string ⟨#[]⟩, .string ⟨#[]⟩, .bool false], .int .i64 (-1)]) (by simp [results, Tryd.results58, go_sem]) rfl ⟨rfl, ?_⟩
    exact (Below.refl _ _).alloc (Nat.le_refl _) _

theorem rblank_next (s : ByteArray) (i : Nat) (hs : s.size ≤ 1000000) (hi : i < s.size) (w : World) :
    Calls Tryd.prog 56 #[.string s, .int .i64 ((i : Int) + 1)] w fun e w' => e = .returned (.int .i64 (nameAt s i)) ∧ w = w' := by
  have := rblank_any s (i + 1) hs (by omega) w
  rwa [show ((i + 1 : Nat) : Int) = (i : Int) + 1 by omega] at this

set_option maxRecDepth 100000 in
set_option maxHeartbeats 1000000 in
theorem rparam_name (s : ByteArray) (i : Nat) (hs : s.size ≤ 1000000) (hi : i < s.size) (h : s.get! i = 59) (hn : ¬ ((1 ≤ nameN s i ∧ nameN s i ≤ 100) ∧ (nameAt s i + nameN s i < s.size ∧ s.get! (nameAt s i + nameN s i) = 61))) (w : World) :
    Calls Tryd.prog 58 #[.string s, .int .i64 i] w fun e w' => e = .returned (.tuple #[.agg #[.string ⟨#[]⟩, .string ⟨#[]⟩, .bool false], .int .i64 (-1)]) ∧ Below w.heap.size w w' := by
  have y1 : (0 : Int) ≤ (i : Int) := by omega
  have y0 : ¬ (s.size : Int) ≤ (i : Int) := by omega
  have y2 : (i : Int) < (s.size : Int) := by omega
  have ix := byte_at s i hi
  have b3 : (((s.get! i).toNat : Int) != 59) = false := by rw [h]; rfl
  have CB := rblank_next s i hs hi
  have hle : nameAt s i ≤ s.size := span_in s isBl (i + 1) (by omega)
  have CT := fun w => rtok_any s (nameAt s i) hs hle w
  have hln : nameAt s i + nameN s i ≤ s.size := span_in s inTok _ hle
  have ET : tokAt s (nameAt s i) = if 1 ≤ nameN s i ∧ nameN s i ≤ 100 then ((nameAt s i + nameN s i : Nat) : Int) else -1 := rfl
  rw [ET] at CT
  clear ET h
  generalize nameAt s i = a at *
  generalize nameN s i = n at *
  generalize s.get! i = d at *
  by_cases h1 : 1 ≤ n ∧ n ≤ 100
  · rw [if_pos h1] at CT
    obtain ⟨b, hb⟩ : ∃ b, a + n = b := ⟨_, rfl⟩
    rw [hb] at CT hn hln
    have x0 : ¬ (b : Int) < 0 := by omega
    have x1 : (0 : Int) ≤ (b : Int) := by omega
    by_cases h2 : b < s.size
    · have x2 : ((b : Int) == (s.size : Int)) = false := beq_eq_false_iff_ne.2 (by omega)
      have x3 : (b : Int) < (s.size : Int) := by omega
      have iy := byte_at s b h2
      have c1 := eq_byte (s.get! b) 61
      simp only [show ((61 : UInt8).toNat : Int) = 61 from rfl] at c1
      rw [decide_eq_false (fun e => hn ⟨h1, h2, e⟩)] at c1
      have c2 : ((s.get! b).toNat : Int) ≠ 61 := fun e => by rw [beq_iff_eq.2 e] at c1; cases c1
      have c3 : (((s.get! b).toNat : Int) != 61) = true := by rw [bne_iff_ne]; exact c2
      generalize s.get! b = d2 at *
      clear hn h1
      go_enter Tryd.func58, Tryd.ntmps58
      go_wp2_with fail
      refine (CB _).mono ?_; rintro e w1 ⟨rfl, rfl⟩
      go_wp2_with fail
      refine (CT _).mono ?_; rintro e w1 ⟨rfl, rfl⟩
      go_wp2_with fail
      refine bodyPost_ret (v := .tuple #[.agg #[.string ⟨#[]⟩, .string ⟨#[]⟩, .bool false], .int .i64 (-1)]) (by simp [results, Tryd.results58, go_sem]) rfl ⟨rfl, ?_⟩
      exact (Below.refl _ _).alloc (Nat.le_refl _) _
    · have x2 : ((b : Int) == (s.size : Int)) = true := beq_iff_eq.2 (by omega)
      clear hn h1
      go_enter Tryd.func58, Tryd.ntmps58
      go_wp2_with fail
      refine (CB _).mono ?_; rintro e w1 ⟨rfl, rfl⟩
      go_wp2_with fail
      refine (CT _).mono ?_; rintro e w1 ⟨rfl, rfl⟩
      go_wp2_with fail
      refine bodyPost_ret (v := .tuple #[.agg #[.string ⟨#[]⟩, .string ⟨#[]⟩, .bool false], .int .i64 (-1)]) (by simp [results, Tryd.results58, go_sem]) rfl ⟨rfl, ?_⟩
      exact (Below.refl _ _).alloc (Nat.le_refl _) _
  · rw [if_neg h1] at CT
    clear hn h1
    go_enter Tryd.func58, Tryd.ntmps58
    go_wp2_with fail
    refine (CB _).mono ?_; rintro e w1 ⟨rfl, rfl⟩
    go_wp2_with fail
    refine (CT _).mono ?_; rintro e w1 ⟨rfl, rfl⟩
    go_wp2_with fail
    refine bodyPost_ret (v := .tuple #[.agg #[.string ⟨#[]⟩, .string ⟨#[]⟩, .bool false], .int .i64 (-1)]) (by simp [results, Tryd.results58, go_sem]) rfl ⟨rfl, ?_⟩
    exact (Below.refl _ _).alloc (Nat.le_refl _) _
end Go.Proofs.YtelofhplpeeplaaDoor.media
