/- Characters and bytes of tokens: a byte below 128 is its own character, another one begins a character that is none of a token's. -/
import Derived.Test.YtelofhplpeeplaaDoorMdList
import Derived.Lib.DecodeN
import Derived.Lib.Bytealg
set_option linter.unusedSimpArgs false
set_option linter.unusedVariables false
namespace Go.Proofs.YtelofhplpeeplaaDoor.media
open Go.RowKit Go.Proofs.YtelofhplpeeplaaDoor.errs

theorem decode_low (s : ByteArray) (i : Nat) (h : (s.get! i).toNat < 128) : Utf8.decode s i = ((s.get! i).toNat, 1) := by
  rw [Lib.decode_at]
  unfold Lib.decodeN
  rw [if_pos h]
theorem decode_high (s : ByteArray) (i : Nat) (h : ¬ (s.get! i).toNat < 128) : 128 ≤ (Utf8.decode s i).1 ∧ (Utf8.decode s i).1 ≤ 1114111 ∧ ((Utf8.decode s i).1 < 55296 ∨ 57344 ≤ (Utf8.decode s i).1) := by
  rw [Lib.decode_at]
  have h0 := UInt8.toNat_lt (s.get! i)
  generalize (s.get! i).toNat = b0 at *
  generalize (s.get! (i + 1)).toNat = b1 at *
  generalize (s.get! (i + 2)).toNat = b2 at *
  generalize (s.get! (i + 3)).toNat = b3 at *
  generalize s.size - i = n at *
  unfold Lib.decodeN
  rw [if_neg h]
  repeat' split
  all_goals simp
  all_goals omega

/-- The signs of tokens, as the program has them. -/
def marksL : List UInt8 := [33, 35, 36, 37, 38, 39, 42, 43, 45, 46, 94, 95, 96, 124, 126]
theorem marks_text : T marksL = ⟨#[33, 35, 36, 37, 38, 39, 42, 43, 45, 46, 94, 95, 96, 124, 126]⟩ := rfl
/-- May a character stand in a token? -/
def inTokC (c : Nat) : Bool := decide (97 ≤ c ∧ c ≤ 122) || decide (65 ≤ c ∧ c ≤ 90) || decide (48 ≤ c ∧ c ≤ 57) || (decide (c < 128) && marksL.contains (UInt8.ofNat c))
theorem inTokC_low : ∀ n : Fin 256, n.val < 128 → inTokC n.val = inTok (UInt8.ofNat n.val) := by decide +kernel
theorem inTokC_byte (c : UInt8) (h : c.toNat < 128) : inTokC c.toNat = inTok c := by
  have := inTokC_low ⟨c.toNat, c.toNat_lt⟩ h
  simpa using this
theorem inTok_high : ∀ n : Fin 256, 128 ≤ n.val → inTok (UInt8.ofNat n.val) = false := by decide +kernel
theorem inTok_big (c : UInt8) (h : ¬ c.toNat < 128) : inTok c = false := by
  have := inTok_high ⟨c.toNat, c.toNat_lt⟩ (by show 128 ≤ c.toNat; omega)
  simpa using this
theorem inTokC_big (c : Nat) (h : 128 ≤ c) : inTokC c = false := by
  unfold inTokC
  rw [decide_eq_false (by omega), decide_eq_false (by omega), decide_eq_false (by omega), decide_eq_false (by omega)]
  rfl
theorem indexByte_in (l : List UInt8) (c : UInt8) : decide (0 ≤ Lib.indexByte l c) = l.contains c := by
  induction l with
  | nil => rfl
  | cons b l ih =>
    unfold Lib.indexByte
    have hg := Lib.indexByte_ge l c
    by_cases e : b = c
    · rw [if_pos (by rw [e]; exact beq_self_eq_true c), List.contains_cons, e, beq_self_eq_true, Bool.true_or]; rfl
    · rw [if_neg (by rw [beq_iff_eq]; exact e), List.contains_cons, show (c == b) = false from beq_eq_false_iff_ne.2 (fun q => e q.symm), Bool.false_or, ← ih]
      by_cases h1 : Lib.indexByte l c = -1
      · rw [if_pos (beq_iff_eq.2 h1), h1]
      · rw [if_neg (by rw [beq_iff_eq]; exact h1)]
        rw [decide_eq_true (by omega), decide_eq_true (by omega)]
end Go.Proofs.YtelofhplpeeplaaDoor.media
