/- Plain mathematics of characters' bytes: the document's answer (make a number's bytes, hold them against what stands there) finds the same character as Go's decoder. -/
import Derived.Lib.DecodeNEq
namespace Go.Proofs.YtoilalffhmjhdaaGreatDoor.umath
open Go.Lib

/-- Is a number a character? -/
def right (n : Int) : Bool := decide (0 ≤ n ∧ n < 1114112 ∧ ¬ (55296 ≤ n ∧ n < 57344))
theorem right_iff (n : Int) : right n = true ↔ 0 ≤ n ∧ n < 1114112 ∧ ¬ (55296 ≤ n ∧ n < 57344) := by simp only [right, decide_eq_true_eq]

/-- A character's bytes. -/
def put (n : Int) : List Int :=
  if n < 128 then [n] else if n < 2048 then [192 + n / 64, 128 + n % 64]
  else if n < 65536 then [224 + n / 4096, 128 + n / 64 % 64, 128 + n % 64]
  else [240 + n / 262144, 128 + n / 4096 % 64, 128 + n / 64 % 64, 128 + n % 64]

/-- The number that so many bytes would tell. -/
def guess (k : Nat) (b0 b1 b2 b3 : Int) : Int :=
  match k with
  | 1 => b0
  | 2 => 64 * (b0 - 192) + b1 - 128
  | 3 => 64 * (64 * (b0 - 224) + b1 - 128) + b2 - 128
  | _ => 64 * (64 * (64 * (b0 - 240) + b1 - 128) + b2 - 128) + b3 - 128
def row (k : Nat) (b0 b1 b2 b3 : Int) : List Int :=
  match k with
  | 1 => [b0]
  | 2 => [b0, b1]
  | 3 => [b0, b1, b2]
  | _ => [b0, b1, b2, b3]
/-- Do so many bytes be a character's? -/
def Hit (k : Nat) (b0 b1 b2 b3 : Int) : Prop := right (guess k b0 b1 b2 b3) = true ∧ put (guess k b0 b1 b2 b3) = row k b0 b1 b2 b3

section
variable (b0 b1 b2 b3 : Int)

theorem hit1 (h : 0 ≤ b0) : Hit 1 b0 b1 b2 b3 ↔ b0 < 128 := by
  simp only [Hit, right_iff, guess, row, put]
  constructor
  · rintro ⟨_, h2⟩
    split at h2
    · assumption
    · split at h2
      · simp at h2
      · split at h2 <;> simp at h2
  · intro hb
    exact ⟨by omega, by simp [hb]⟩
theorem hit2 : Hit 2 b0 b1 b2 b3 ↔ 194 ≤ b0 ∧ b0 < 224 ∧ 128 ≤ b1 ∧ b1 < 192 := by
  simp only [Hit, right_iff, guess, row, put]
  generalize hg : 64 * (b0 - 192) + b1 - 128 = g
  constructor
  · rintro ⟨h1, h2⟩
    split at h2
    · simp at h2
    · split at h2
      · simp at h2; omega
      · split at h2 <;> simp at h2
  · intro hb
    refine ⟨by omega, ?_⟩
    rw [if_neg (by omega), if_pos (by omega)]
    simp; omega
theorem hit3 : Hit 3 b0 b1 b2 b3 ↔ 224 ≤ b0 ∧ b0 < 240 ∧ 128 ≤ b1 ∧ b1 < 192 ∧ 128 ≤ b2 ∧ b2 < 192 ∧ 2048 ≤ guess 3 b0 b1 b2 b3 ∧ ¬ (55296 ≤ guess 3 b0 b1 b2 b3 ∧ guess 3 b0 b1 b2 b3 < 57344) := by
  simp only [Hit, right_iff, guess, row, put]
  generalize hg : 64 * (64 * (b0 - 224) + b1 - 128) + b2 - 128 = g
  constructor
  · rintro ⟨h1, h2⟩
    split at h2
    · simp at h2
    · split at h2
      · simp at h2
      · split at h2
        · simp at h2; omega
        · simp at h2
  · intro hb
    refine ⟨by omega, ?_⟩
    rw [if_neg (by omega), if_neg (by omega), if_pos (by omega)]
    simp; omega
theorem hit4 : Hit 4 b0 b1 b2 b3 ↔ 240 ≤ b0 ∧ b0 < 248 ∧ 128 ≤ b1 ∧ b1 < 192 ∧ 128 ≤ b2 ∧ b2 < 192 ∧ 128 ≤ b3 ∧ b3 < 192 ∧ 65536 ≤ guess 4 b0 b1 b2 b3 ∧ guess 4 b0 b1 b2 b3 < 1114112 := by
  simp only [Hit, right_iff, guess, row, put]
  generalize hg : 64 * (64 * (64 * (b0 - 240) + b1 - 128) + b2 - 128) + b3 - 128 = g
  constructor
  · rintro ⟨h1, h2⟩
    split at h2
    · simp at h2
    · split at h2
      · simp at h2
      · split at h2
        · simp at h2
        · simp at h2; omega
  · intro hb
    refine ⟨by omega, ?_⟩
    rw [if_neg (by omega), if_neg (by omega), if_neg (by omega)]
    simp; omega
end

/-- What the decoder gives, if a character stands there: as many bytes as no fewer would make one. -/
structure Found (m : Nat) (b0 b1 b2 b3 : Nat) (R K : Nat) : Prop where
  fits : K ≤ m
  pos : 1 ≤ K
  most : K ≤ 4
  hit : Hit K b0 b1 b2 b3
  val : guess K b0 b1 b2 b3 = R
  less : ∀ k, 1 ≤ k → k < K → ¬ Hit k b0 b1 b2 b3

theorem none_before (b0 b1 b2 b3 : Nat) (h : 192 ≤ b0) (k : Nat) (hk : 1 ≤ k) (h2 : k < 2 ∨ (k < 3 ∧ 224 ≤ b0) ∨ (k < 4 ∧ 240 ≤ b0)) : ¬ Hit k b0 b1 b2 b3 := by
  rcases (show k = 1 ∨ k = 2 ∨ k = 3 by omega) with rfl | rfl | rfl
  · rw [hit1 _ _ _ _ (by omega)]; omega
  · rw [hit2]; omega
  · rw [hit3]; omega

theorem none_at_all (m b0 b1 b2 b3 : Nat) (h1 : ¬ b0 < 128) (h2 : ¬ (2 ≤ m ∧ 194 ≤ b0 ∧ b0 < 224 ∧ 128 ≤ b1 ∧ b1 < 192))
    (h3 : ¬ (3 ≤ m ∧ Hit 3 b0 b1 b2 b3)) (h4 : ¬ (4 ≤ m ∧ Hit 4 b0 b1 b2 b3)) (k : Nat) (hk : 1 ≤ k) (hk4 : k ≤ 4) (hm : k ≤ m) : ¬ Hit k b0 b1 b2 b3 := by
  rcases (show k = 1 ∨ k = 2 ∨ k = 3 ∨ k = 4 by omega) with rfl | rfl | rfl | rfl
  · rw [hit1 _ _ _ _ (by omega)]; omega
  · rw [hit2]; omega
  · exact fun h => h3 ⟨hm, h⟩
  · exact fun h => h4 ⟨hm, h⟩

theorem no3 {m b0 b1 b2 b3 : Nat} (h : ¬ (3 ≤ m ∧ 224 ≤ b0 ∧ b0 < 240 ∧ 128 ≤ b1 ∧ b1 < 192 ∧ 128 ≤ b2 ∧ b2 < 192 ∧ (2048 : Int) ≤ 64 * (64 * ((b0 : Int) - 224) + b1 - 128) + b2 - 128 ∧ ¬ ((55296 : Int) ≤ 64 * (64 * ((b0 : Int) - 224) + b1 - 128) + b2 - 128 ∧ 64 * (64 * ((b0 : Int) - 224) + b1 - 128) + b2 - 128 < (57344 : Int)))) : ¬ (3 ≤ m ∧ Hit 3 b0 b1 b2 b3) := by
  rw [hit3]; simp only [guess]; omega
theorem no4 {m b0 b1 b2 b3 : Nat} (h : ¬ (4 ≤ m ∧ 240 ≤ b0 ∧ b0 < 248 ∧ 128 ≤ b1 ∧ b1 < 192 ∧ 128 ≤ b2 ∧ b2 < 192 ∧ 128 ≤ b3 ∧ b3 < 192 ∧ (65536 : Int) ≤ 64 * (64 * (64 * ((b0 : Int) - 240) + b1 - 128) + b2 - 128) + b3 - 128 ∧ 64 * (64 * (64 * ((b0 : Int) - 240) + b1 - 128) + b2 - 128) + b3 - 128 < (1114112 : Int))) : ¬ (4 ≤ m ∧ Hit 4 b0 b1 b2 b3) := by
  rw [hit4]; simp only [guess]; omega

/-- What is said of the decoder's answer. -/
def Agrees (m b0 b1 b2 b3 : Nat) (d : Nat × Nat) : Prop :=
  (¬ (d = (65533, 1)) → Found m b0 b1 b2 b3 d.1 d.2) ∧ (d = (65533, 1) → ∀ k, 1 ≤ k → k ≤ 4 → k ≤ m → ¬ Hit k b0 b1 b2 b3)
theorem agrees_yes {m b0 b1 b2 b3 R K : Nat} (hn : ¬ ((R, K) = (65533, 1))) (h : Found m b0 b1 b2 b3 R K) : Agrees m b0 b1 b2 b3 (R, K) := ⟨fun _ => h, fun e => absurd e hn⟩
theorem agrees_no {m b0 b1 b2 b3 : Nat} (h : ∀ k, 1 ≤ k → k ≤ 4 → k ≤ m → ¬ Hit k b0 b1 b2 b3) : Agrees m b0 b1 b2 b3 (65533, 1) := ⟨fun e => absurd rfl e, fun _ => h⟩

set_option maxHeartbeats 1000000 in
theorem decode_found (m b0 b1 b2 b3 : Nat) (hm : 1 ≤ m) (l0 : b0 < 256) (l1 : b1 < 256) (l2 : b2 < 256) (l3 : b3 < 256) : Agrees m b0 b1 b2 b3 (decodeN m b0 b1 b2 b3) := by
  unfold decodeN
  by_cases c1 : b0 < 128
  · rw [if_pos c1]
    exact agrees_yes (by simp; omega) ⟨hm, by omega, by omega, (hit1 _ _ _ _ (by omega)).2 (by omega), rfl, fun k h1 h2 => by omega⟩
  rw [if_neg c1]
  by_cases c2 : b0 / 32 = 6 ∧ (1 < m ∧ b1 / 64 = 2)
  · rw [if_pos c2]
    by_cases d2 : b0 % 32 * 64 + b1 % 64 ≥ 128
    · rw [if_pos d2]
      exact agrees_yes (by simp) ⟨by omega, by omega, by omega, (hit2 _ _ _ _).2 (by omega), by simp only [guess]; omega, fun k h1 h2 => none_before b0 b1 b2 b3 (by omega) k h1 (by omega)⟩
    · rw [if_neg d2]
      exact agrees_no (none_at_all m b0 b1 b2 b3 c1 (by omega) (no3 (by omega)) (no4 (by omega)))
  rw [if_neg c2]
  by_cases c3 : b0 / 16 = 14 ∧ (1 < m ∧ b1 / 64 = 2) ∧ (2 < m ∧ b2 / 64 = 2)
  · rw [if_pos c3]
    generalize hv : b0 % 16 * 4096 + b1 % 64 * 64 + b2 % 64 = v
    have hg : 64 * (64 * ((b0 : Int) - 224) + b1 - 128) + b2 - 128 = (v : Int) := by omega
    by_cases d3 : v ≥ 2048 ∧ (v < 55296 ∨ (57344 ≤ v ∧ v ≤ 1114111))
    · rw [if_pos d3]
      exact agrees_yes (by simp) ⟨by omega, by omega, by omega, (hit3 _ _ _ _).2 (by simp only [guess]; omega), by simp only [guess]; omega, fun k h1 h2 => none_before b0 b1 b2 b3 (by omega) k h1 (by omega)⟩
    · rw [if_neg d3]
      exact agrees_no (none_at_all m b0 b1 b2 b3 c1 (by omega) (no3 (by omega)) (no4 (by omega)))
  rw [if_neg c3]
  by_cases c4 : b0 / 8 = 30 ∧ (1 < m ∧ b1 / 64 = 2) ∧ (2 < m ∧ b2 / 64 = 2) ∧ (3 < m ∧ b3 / 64 = 2)
  · rw [if_pos c4]
    generalize hv : b0 % 8 * 262144 + b1 % 64 * 4096 + b2 % 64 * 64 + b3 % 64 = v
    have hg : 64 * (64 * (64 * ((b0 : Int) - 240) + b1 - 128) + b2 - 128) + b3 - 128 = (v : Int) := by omega
    by_cases d4 : v ≥ 65536 ∧ (v < 55296 ∨ (57344 ≤ v ∧ v ≤ 1114111))
    · rw [if_pos d4]
      exact agrees_yes (by simp) ⟨by omega, by omega, by omega, (hit4 _ _ _ _).2 (by simp only [guess]; omega), by simp only [guess]; omega, fun k h1 h2 => none_before b0 b1 b2 b3 (by omega) k h1 (by omega)⟩
    · rw [if_neg d4]
      exact agrees_no (none_at_all m b0 b1 b2 b3 c1 (by omega) (no3 (by omega)) (no4 (by omega)))
  rw [if_neg c4]
  exact agrees_no (none_at_all m b0 b1 b2 b3 c1 (by omega) (no3 (by omega)) (no4 (by omega)))
end Go.Proofs.YtoilalffhmjhdaaGreatDoor.umath
