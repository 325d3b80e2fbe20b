/- The law on statuses: for any input it returns true. -/
import Derived.Test.YtelofhplpeeplaaDoorWrSpeaks
import Derived.Test.YtelofhplpeeplaaDoorWrBlk
set_option linter.unusedSimpArgs false
set_option linter.unusedVariables false
namespace Go.Proofs.YtelofhplpeeplaaDoor.wireStatus
open Go.RowKit Go.Proofs.YtelofhplpeeplaaDoor.errs Go.Proofs.YtelofhplpeeplaaDoor.media Go.Proofs.YtelofhplpeeplaaDoor.wire

theorem jk_json (ap : Bool) (st : Int) : jk ap st false false jsonS 0 = 0 ↔ st = 200 := by
  unfold jk
  rw [typed_json, if_neg (by decide), if_neg (by decide), if_pos rfl, if_neg (Nat.not_lt_zero _)]
  by_cases h : st = 200
  · subst h
    exact ⟨fun _ => rfl, fun _ => by decide⟩
  · refine ⟨fun q => ?_, fun q => absurd q h⟩
    split at q
    · cases q
    · first | (exact absurd q (by decide)) | (rw [if_pos h] at q; cases q)
theorem jk_none (ap : Bool) (st : Int) : jk ap st false false ⟨#[]⟩ 0 = 0 ↔ (st = 200 ∧ ap = true) := by
  unfold jk
  rw [typed_none, if_neg (by decide), if_neg (by decide), if_neg (Nat.not_lt_zero _)]
  by_cases h : st = 200
  · subst h
    cases ap
    · exact ⟨fun q => absurd q (by decide), fun q => by cases q.2⟩
    · exact ⟨fun _ => ⟨rfl, rfl⟩, fun _ => by decide⟩
  · refine ⟨fun q => ?_, fun q => absurd q.1 h⟩
    split at q
    · cases q
    · first | (exact absurd q (by decide)) | (rw [if_pos h] at q; cases q)

theorem told {k : Nat} {q : Bool} (h : k = 0 ↔ q = true) : ∀ (w : World) (x : Value), JIs k w x → (q = true ∧ x = .nilIface) ∨ (q = false ∧ ∃ b, x = .iface 65 (.pointer (some ⟨b, 0, none⟩))) := fun w x hx => by
  rcases hx with ⟨h0, rfl⟩ | ⟨h0, v, b, rfl, -⟩
  · exact .inl ⟨h.1 h0, rfl⟩
  · refine .inr ⟨?_, b, rfl⟩
    cases q with
    | true => exact absurd (h.2 rfl) h0
    | false => rfl

set_option maxRecDepth 100000 in
set_option maxHeartbeats 4000000 in
theorem law (st : Int) (ap : Bool) (w : World) (hL : Laid w) :
    Calls Tryd.prog 6 #[.int .i64 st, .bool ap] w fun e w' => e = .returned (.bool true) ∧ Below w.heap.size w w' := by
  have S := speaks_any w hL
  have J1 := fun w => judge_any ap 0 st false false jsonS ⟨#[]⟩ none 0 0 (by decide) w
  have J2 := fun w => judge_any ap 0 st false false ⟨#[]⟩ ⟨#[]⟩ none 0 0 (by decide) w
  obtain ⟨q, hq⟩ : ∃ q, (st == (200 : Int)) = q := ⟨_, rfl⟩
  have T1 := told (q := q) (show jk ap st false false jsonS 0 = 0 ↔ q = true by rw [jk_json, ← hq, beq_iff_eq])
  have T2 := told (q := q && ap) (show jk ap st false false ⟨#[]⟩ 0 = 0 ↔ (q && ap) = true by rw [jk_none, ← hq, Bool.and_eq_true, beq_iff_eq])
  generalize jk ap st false false jsonS 0 = k1 at *
  generalize jk ap st false false ⟨#[]⟩ 0 = k2 at *
  unfold jsonS at J1
  have H1 := Lib.hid T1
  have H2 := Lib.hid T2
  clear T1 T2 hL
  cases q <;> cases ap
  all_goals
    go_enter Tryd.func6, Tryd.ntmps6
    go_wp2_with fail
    refine S.mono ?_; rintro e w1 ⟨rfl, hb⟩
    have K1 := Lib.hid hb
    clear hb S
    go_wp2_with fail
    have HX := Lib.hid (blk_new w1 #[.int .u64 0, .int .i64 st, .bool false, .bool false, .string ⟨#[97, 112, 112, 108, 105, 99, 97, 116, 105, 111, 110, 47, 106, 115, 111, 110, 59, 32, 99, 104, 97, 114, 115, 101, 116, 61, 117, 116, 102, 45, 56]⟩, .string ⟨#[]⟩, .slice none 0 0] 25)
    have K2 : Hid (w1.heap.size < (w1.alloc (.cells #[.int .u64 0, .int .i64 st, .bool false, .bool false, .string ⟨#[97, 112, 112, 108, 105, 99, 97, 116, 105, 111, 110, 47, 106, 115, 111, 110, 59, 32, 99, 104, 97, 114, 115, 101, 116, 61, 117, 116, 102, 45, 56]⟩, .string ⟨#[]⟩, .slice none 0 0] 25)).heap.size ∧ w.heap.size ≤ w1.heap.size ∧ Below w.heap.size w (w1.alloc (.cells #[.int .u64 0, .int .i64 st, .bool false, .bool false, .string ⟨#[97, 112, 112, 108, 105, 99, 97, 116, 105, 111, 110, 47, 106, 115, 111, 110, 59, 32, 99, 104, 97, 114, 115, 101, 116, 61, 117, 116, 102, 45, 56]⟩, .string ⟨#[]⟩, .slice none 0 0] 25))) := ⟨by simp, K1.out.size, K1.out.alloc K1.out.size _⟩
    clear K1
    generalize w1.alloc (.cells #[.int .u64 0, .int .i64 st, .bool false, .bool false, .string ⟨#[97, 112, 112, 108, 105, 99, 97, 116, 105, 111, 110, 47, 106, 115, 111, 110, 59, 32, 99, 104, 97, 114, 115, 101, 116, 61, 117, 116, 102, 45, 56]⟩, .string ⟨#[]⟩, .slice none 0 0] 25) = W1 at *
    generalize w1.heap.size = b at *
    refine (J1 _).mono ?_; rintro e w2 ⟨x, rfl, hx, hb⟩
    have X2 := HX.out.below hb K2.out.1
    have K3 : Hid (w.heap.size ≤ b ∧ Below w.heap.size w w2) := ⟨K2.out.2.1, K2.out.2.2.trans (hb.mono K2.out.2.2.size)⟩
    have c0 := X2.get 0
    have c1 := X2.get 1
    have c2 := X2.get 2
    have c3 := X2.get 3
    have c4 := X2.get 4
    have c5 := X2.get 5
    have c6 := X2.get 6
    have f4 := X2.frz 4
    simp only [List.getElem?_toArray, List.getElem?_cons_zero, List.getElem?_cons_succ] at c0 c1 c2 c3 c4 c5 c6
    have XX := H1.out _ x hx
    clear hx hb HX X2 H1 J1 K2
    rcases XX with ⟨h0, h1⟩ | ⟨h0, h1⟩
    all_goals first | (exact absurd h0 (by decide)) | (obtain rfl := h1) | (obtain ⟨bx, rfl⟩ := h1)
    clear h0

    go_wp2_with fail
    refine (J2 _).mono ?_; rintro e w3 ⟨y, rfl, hy, hb⟩
    have K4 : Hid (Below w.heap.size w w3) := (K3.out.2.setCell (p := ⟨b, 4, none⟩) K3.out.1 _).trans (hb.mono (by have := K3.out.2.size; simp; omega))
    have YY := H2.out _ y hy
    clear hy hb H2 J2 K3 c0 c1 c2 c3 c4 c5 c6 f4
    rcases YY with ⟨h0, h1⟩ | ⟨h0, h1⟩
    all_goals first | (exact absurd h0 (by decide)) | (obtain rfl := h1) | (obtain ⟨bx, rfl⟩ := h1)
    clear h0

    go_wp2_with fail
    go_ret
    exact ⟨rfl, K4.out⟩
end Go.Proofs.YtelofhplpeeplaaDoor.wireStatus
