/- The document's kind of content: where there is none ahead of its parameters. -/
import Derived.Test.YtelofhplpeeplaaDoorMdParse
set_option linter.unusedSimpArgs false
set_option linter.unusedVariables false
namespace Go.Proofs.YtelofhplpeeplaaDoor.media
open Go.RowKit Go.Proofs.YtelofhplpeeplaaDoor.errs Go.Proofs.YtelofhplpeeplaaDoor.gmath Go.Proofs.YtelofhplpeeplaaDoor.glref

def kOf : Med → Nat | .bad k _ => k | .good _ _ _ => 0
/-- What the document's reading answers. -/
def RMediaOut (o : Med) (w : World) (e : Ending) (w' : World) : Prop :=
  ∃ (ad : Option Addr) (n c : Nat), e = .returned (.tuple #[.agg #[.string (tOf o), .string (uOf o), .slice ad n c], .int .i64 (kOf o)]) ∧ ItemsFrom w.heap.size w' (.slice ad n c) (psOf o) ∧ Below w.heap.size w w'

def hdA (s : ByteArray) : Nat := 0 + spanN isBl (s.data.toList.drop 0)
def hdN (s : ByteArray) : Nat := spanN inTok (s.data.toList.drop (hdA s))
def hdM (s : ByteArray) : Nat := spanN inTok (s.data.toList.drop (hdA s + hdN s + 1))
def HeadOk (s : ByteArray) : Prop := (1 ≤ hdN s ∧ hdN s ≤ 100) ∧ (hdA s + hdN s < s.size ∧ s.get! (hdA s + hdN s) = 47) ∧ (1 ≤ hdM s ∧ hdM s ≤ 100)
theorem head_skip (s : ByteArray) : skip s.data.toList = s.data.toList.drop (hdA s) := skip_drop s 0
theorem head_no {s : ByteArray} (h : ¬ HeadOk s) : headC s.data.toList = none := by
  unfold headC
  rw [head_skip]
  unfold tokC
  by_cases h1 : 1 ≤ hdN s ∧ hdN s ≤ 100
  · rw [show spanN inTok (s.data.toList.drop (hdA s)) = hdN s from rfl, if_pos (okN_yes h1)]
    simp only
    rw [List.drop_drop, must_drop]
    by_cases h2 : hdA s + hdN s < s.size ∧ s.get! (hdA s + hdN s) = 47
    · rw [if_pos h2]
      simp only
      by_cases h3 : 1 ≤ hdM s ∧ hdM s ≤ 100
      · exact absurd ⟨h1, h2, h3⟩ h
      · rw [if_neg (by rw [show spanN inTok (s.data.toList.drop (hdA s + hdN s + 1)) = hdM s from rfl, okN_no h3]; decide)]
    · rw [if_neg h2]
  · rw [if_neg (by rw [show spanN inTok (s.data.toList.drop (hdA s)) = hdN s from rfl, okN_no h1]; decide)]
theorem head_yes {s : ByteArray} (h : HeadOk s) : headC s.data.toList = some ((lowS (s.extract (hdA s) (hdA s + hdN s)), lowS (s.extract (hdA s + hdN s + 1) (hdA s + hdN s + 1 + hdM s))), s.data.toList.drop (hdA s + hdN s + 1 + hdM s)) := by
  obtain ⟨h1, h2, h3⟩ := h
  unfold headC
  rw [head_skip]
  unfold tokC
  rw [show spanN inTok (s.data.toList.drop (hdA s)) = hdN s from rfl, if_pos (okN_yes h1)]
  simp only
  rw [List.drop_drop, must_drop, if_pos h2]
  simp only
  rw [show spanN inTok (s.data.toList.drop (hdA s + hdN s + 1)) = hdM s from rfl, if_pos (okN_yes h3)]
  simp only
  rw [List.drop_drop, cut_T, cut_T, Nat.add_sub_cancel_left, Nat.add_sub_cancel_left]
theorem hdA_le (s : ByteArray) : hdA s ≤ s.size := span_in s isBl 0 (Nat.zero_le _)
theorem hdN_le (s : ByteArray) : hdA s + hdN s ≤ s.size := span_in s inTok _ (hdA_le s)

set_option maxRecDepth 100000 in
set_option maxHeartbeats 1000000 in
theorem rparse_long (s : ByteArray) (hs : s.size ≤ 1000000) (h1 : 1000 < s.size) (w : World) :
    Calls Tryd.prog 44 #[.string s] w fun e w' => RMediaOut (.bad 14 1000) w e w' := by
  have x0 : (1000 : Int) < (s.size : Int) := by omega
  clear h1
  go_enter Tryd.func44, Tryd.ntmps44
  go_wp2_with fail
  refine bodyPost_ret (v := .tuple #[.agg #[.string ⟨#[]⟩, .string ⟨#[]⟩, .slice none 0 0], .int .i64 14]) (by simp [results, Tryd.results44, go_sem]) rfl ⟨_, _, _, rfl, from_nil _ _, ?_⟩
  exact (Below.refl _ _).alloc (Nat.le_refl _) _

set_option maxRecDepth 100000 in
set_option maxHeartbeats 1000000 in
theorem rparse_head (s : ByteArray) (hs : s.size ≤ 1000000) (h1 : ¬ 1000 < s.size) (h : ¬ HeadOk s) (w : World) :
    Calls Tryd.prog 44 #[.string s] w fun e w' => RMediaOut (.bad 11 0) w e w' := by
  have x0 : ¬ (1000 : Int) < (s.size : Int) := by omega
  have CB : ∀ w, Calls Tryd.prog 56 #[.string s, .int .i64 0] w fun e w' => e = .returned (.int .i64 (hdA s)) ∧ w = w' := rblank_any s 0 hs (Nat.zero_le _)
  have hA := hdA_le s
  have hN := hdN_le s
  have CT := fun w => rtok_any s (hdA s) hs hA w
  have ET : tokAt s (hdA s) = if 1 ≤ hdN s ∧ hdN s ≤ 100 then ((hdA s + hdN s : Nat) : Int) else -1 := rfl
  rw [ET] at CT
  obtain ⟨a, ha⟩ : ∃ a, hdA s + hdN s = a := ⟨_, rfl⟩
  have EM : hdM s = spanN inTok (s.data.toList.drop (a + 1)) := by rw [← ha]; rfl
  unfold HeadOk at h
  rw [ha] at CT h hN
  clear h1 ET
  generalize hdM s = m at *
  generalize hdN s = n at *
  generalize hdA s = A at *
  clear ha hA
  by_cases hn : 1 ≤ n ∧ n ≤ 100
  · rw [if_pos hn] at CT
    have x1 : ¬ (a : Int) < 0 := by omega
    have x2 : (0 : Int) ≤ (a : Int) := by omega
    by_cases h2 : a < s.size
    · have x3 : ((a : Int) == (s.size : Int)) = false := beq_eq_false_iff_ne.2 (by omega)
      have x4 : (a : Int) < (s.size : Int) := by omega
      have ia := byte_at s a h2
      have c1 := eq_byte (s.get! a) 47
      simp only [show ((47 : UInt8).toNat : Int) = 47 from rfl] at c1
      by_cases h3 : s.get! a = 47
      · rw [decide_eq_true h3] at c1
        have c3 : (((s.get! a).toNat : Int) != 47) = false := by rw [bne, c1]; rfl
        have hm : ¬ (1 ≤ m ∧ m ≤ 100) := fun q => h ⟨hn, ⟨h2, h3⟩, q⟩
        have CM : ∀ w, Calls Tryd.prog 57 #[.string s, .int .i64 ((a : Int) + 1)] w fun e w' => e = .returned (.int .i64 (-1)) ∧ w = w' := fun w => by
          have := rtok_any s (a + 1) hs (by omega) w
          rw [show tokAt s (a + 1) = if 1 ≤ spanN inTok (s.data.toList.drop (a + 1)) ∧ spanN inTok (s.data.toList.drop (a + 1)) ≤ 100 then ((a + 1 + spanN inTok (s.data.toList.drop (a + 1)) : Nat) : Int) else -1 from rfl, ← EM, if_neg hm] at this
          rwa [show ((a + 1 : Nat) : Int) = (a : Int) + 1 by omega] at this
        clear h hn hm EM h3 h2
        generalize s.get! a = d at *
        go_enter Tryd.func44, Tryd.ntmps44
        go_wp2_with fail
        refine (CB _).mono ?_; rintro e w1 ⟨rfl, rfl⟩
        go_wp2_with fail
        refine (CT _).mono ?_; rintro e w1 ⟨rfl, rfl⟩
        go_wp2_with fail
        refine (CM _).mono ?_; rintro e w1 ⟨rfl, rfl⟩
        go_wp2_with fail
        refine bodyPost_ret (v := .tuple #[.agg #[.string ⟨#[]⟩, .string ⟨#[]⟩, .slice none 0 0], .int .i64 11]) (by simp [results, Tryd.results44, go_sem]) rfl ⟨_, _, _, rfl, from_nil _ _, ?_⟩
        exact (Below.refl _ _).alloc (Nat.le_refl _) _
      · rw [decide_eq_false h3] at c1
        have c3 : (((s.get! a).toNat : Int) != 47) = true := by rw [bne, c1]; rfl
        clear h hn EM h3 h2
        generalize s.get! a = d at *
        go_enter Tryd.func44, Tryd.ntmps44
        go_wp2_with fail
        refine (CB _).mono ?_; rintro e w1 ⟨rfl, rfl⟩
        go_wp2_with fail
        refine (CT _).mono ?_; rintro e w1 ⟨rfl, rfl⟩
        go_wp2_with fail
        refine bodyPost_ret (v := .tuple #[.agg #[.string ⟨#[]⟩, .string ⟨#[]⟩, .slice none 0 0], .int .i64 11]) (by simp [results, Tryd.results44, go_sem]) rfl ⟨_, _, _, rfl, from_nil _ _, ?_⟩
        exact (Below.refl _ _).alloc (Nat.le_refl _) _
    · have x3 : ((a : Int) == (s.size : Int)) = true := beq_iff_eq.2 (by omega)
      clear h hn EM h2
      go_enter Tryd.func44, Tryd.ntmps44
      go_wp2_with fail
      refine (CB _).mono ?_; rintro e w1 ⟨rfl, rfl⟩
      go_wp2_with fail
      refine (CT _).mono ?_; rintro e w1 ⟨rfl, rfl⟩
      go_wp2_with fail
      refine bodyPost_ret (v := .tuple #[.agg #[.string ⟨#[]⟩, .string ⟨#[]⟩, .slice none 0 0], .int .i64 11]) (by simp [results, Tryd.results44, go_sem]) rfl ⟨_, _, _, rfl, from_nil _ _, ?_⟩
      exact (Below.refl _ _).alloc (Nat.le_refl _) _
  · rw [if_neg hn] at CT
    clear h hn EM
    go_enter Tryd.func44, Tryd.ntmps44
    go_wp2_with fail
    refine (CB _).mono ?_; rintro e w1 ⟨rfl, rfl⟩
    go_wp2_with fail
    refine (CT _).mono ?_; rintro e w1 ⟨rfl, rfl⟩
    go_wp2_with fail
    refine bodyPost_ret (v := .tuple #[.agg #[.string ⟨#[]⟩, .string ⟨#[]⟩, .slice none 0 0], .int .i64 11]) (by simp [results, Tryd.results44, go_sem]) rfl ⟨_, _, _, rfl, from_nil _ _, ?_⟩
    exact (Below.refl _ _).alloc (Nat.le_refl _) _
end Go.Proofs.YtelofhplpeeplaaDoor.media
