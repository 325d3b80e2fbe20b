/- Plain mathematics: texts one behind the other; stars beside stars; a text as its own pattern. -/
import Derived.Test.YtjijdaheabgphaaDoorGpLead2
import Derived.Test.YtjijdaheabgphaaDoorJoinMath
set_option linter.unusedSimpArgs false
set_option linter.unusedVariables false
namespace Go.Proofs.YtjijdaheabgphaaDoor.gparts
open Go.RowKit Go.Proofs.YtjijdaheabgphaaDoor.errs Go.Proofs.YtjijdaheabgphaaDoor.rows Go.Proofs.YtjijdaheabgphaaDoor.utf Go.Proofs.YtjijdaheabgphaaDoor.chars Go.Proofs.YtjijdaheabgphaaDoor.gmath Go.Proofs.YtjijdaheabgphaaDoor.glref Go.Proofs.YtjijdaheabgphaaDoor.lower Go.Proofs.YtjijdaheabgphaaDoor.ref Go.Proofs.YtjijdaheabgphaaDoor.umath Go.Proofs.YtjijdaheabgphaaDoor.text

theorem app_left (a b : ByteArray) (j : Nat) (h : j < a.size) : (a ++ b).get! j = a.get! j := by
  have h' : j < a.data.size := h
  show ((a ++ b).data)[j]! = a.data[j]!
  rw [ByteArray.data_append, getElem!_pos (a.data ++ b.data) j (by rw [Array.size_append]; omega), getElem!_pos a.data j h', Array.getElem_append_left h']
theorem app_right (a b : ByteArray) (j : Nat) : (a ++ b).get! (a.size + j) = b.get! j := by
  show ((a ++ b).data)[a.data.size + j]! = b.data[j]!
  rw [ByteArray.data_append]
  by_cases h : j < b.data.size
  · rw [getElem!_pos (a.data ++ b.data) _ (by rw [Array.size_append]; omega), getElem!_pos b.data j h, Array.getElem_append_right (by omega)]
    congr 1
    omega
  · rw [getElem!_neg (a.data ++ b.data) _ (by rw [Array.size_append]; omega), getElem!_neg b.data j h]
theorem app_tail (a b : ByteArray) : Tail (a ++ b) b a.size := ⟨ByteArray.size_append, app_right a b⟩
theorem joined_app (a b : ByteArray) (ha : firstBad a = none) : firstBad (a ++ b) = (firstBad b).map (a.size + ·) ∧ all (a ++ b) = all a ++ all b := joined a b (a ++ b) ha (fun j hj => app_left a b j hj) (app_tail a b)

/-- Where all is right, and something of ASCII stands at a place, what is ahead of it is right. -/
theorem scan_ahead (a b : ByteArray) (hb : (b.get! 0).toNat < 128) (h0 : 0 < b.size) : ∀ (g i : Nat), i ≤ a.size → scan (a ++ b) g i = none → scan a g i = none
  | 0, _, _, _ => rfl
  | g + 1, i, hi, h => by
    by_cases hlt : i < a.size
    · have hz : (a ++ b).size = a.size + b.size := ByteArray.size_append
      have hs : i < (a ++ b).size := by omega
      cases hc : charAt (a ++ b) i with
      | false => rw [scan_bad _ g i hs hc] at h; cases h
      | true =>
        rw [scan_step _ g i hs hc] at h
        obtain ⟨r1, r2, r3⟩ := char_put (a ++ b) i hs hc
        have hfit : i + (Utf8.decode (a ++ b) i).2 ≤ a.size := by
          rcases Nat.lt_or_ge a.size (i + (Utf8.decode (a ++ b) i).2) with q | q
          · have := decode_on (a ++ b) i a.size hlt q
            have e : (a ++ b).get! a.size = b.get! 0 := app_right a b 0
            rw [e] at this
            omega
          · exact q
        have hh : Holds a i (put (Utf8.decode (a ++ b) i).1) := by
          refine ⟨by rw [r2]; exact hfit, fun j hj => ?_⟩
          rw [← r3.2 j hj]
          unfold bt
          rw [app_left a b (i + j) (by rw [r2] at hj; omega)]
        obtain ⟨d1, d2, d3⟩ := decode_put a i _ r1 hh
        rw [scan_step a g i hlt d1, d3, r2]
        exact scan_ahead a b hb h0 g _ hfit h
    · exact scan_end a _ i (by omega)
theorem bad_ahead (a b : ByteArray) (hb : (b.get! 0).toNat < 128) (h0 : 0 < b.size) (h : firstBad (a ++ b) = none) : firstBad a = none := by
  unfold firstBad at h
  have := scan_ahead a b hb h0 _ 0 (Nat.zero_le _) h
  unfold firstBad
  rw [← scan_more a a.size (a ++ b).size 0 (by omega) (by rw [ByteArray.size_append]; omega)]
  exact this

theorem check_small (p : ByteArray) (h : p.size ≤ 1024) : decide ((checkOf p).1 = 0) = (firstBad p).isNone := by
  unfold checkOf
  rw [if_neg (by omega)]
  cases firstBad p <;> rfl
theorem match_small (fold : Bool) (p s : ByteArray) (h : p.size ≤ 1024) : matchOf fold p s = ((firstBad p).isNone && (firstBad s).isNone && lang fold (all p) (all s)) := by
  unfold matchOf
  rw [check_small p h]

/-- Ahead of patterns of one language. -/
theorem lang_ahead (fold : Bool) (A X Y : List Int) (h : ∀ T, lang fold X T = lang fold Y T) (T : List Int) : lang fold (A ++ X) T = lang fold (A ++ Y) T := by
  induction A generalizing T with
  | nil => exact h T
  | cons c A ih =>
    induction T with
    | nil => rw [List.cons_append, List.cons_append, lang_end, lang_end, ih]
    | cons x r ihT =>
      rw [List.cons_append, List.cons_append]
      by_cases hc : c = 42
      · subst hc
        rw [lang_star, lang_star, ih]
        rw [List.cons_append, List.cons_append] at ihT
        rw [ihT]
      · rw [lang_one fold hc, lang_one fold hc, ih]
theorem star_star (fold : Bool) (B T : List Int) : lang fold (42 :: 42 :: B) T = lang fold (42 :: B) T := by
  induction T with
  | nil => rw [lang_end, lang_end]; rfl
  | cons x r ih =>
    rw [lang_star, ih, lang_star]
    cases lang fold B (x :: r) <;> cases lang fold (42 :: B) r <;> rfl

def one42 : ByteArray := ⟨#[42]⟩
theorem all42 : all one42 = [42] := by kernel_rfl
theorem right42 : firstBad one42 = none := by kernel_rfl
theorem size42 : one42.size = 1 := by kernel_rfl
theorem get42 : (one42.get! 0).toNat = 42 := by kernel_rfl
/-- A star more ahead of a star. -/
theorem match_star (fold : Bool) (a r s : ByteArray) (hr : (r.get! 0).toNat = 42) (h0 : 0 < r.size) (hz : a.size + r.size ≤ 1000) : matchOf fold (a ++ one42 ++ r) s = matchOf fold (a ++ r) s := by
  have e1 : (a ++ one42 ++ r).size ≤ 1024 := by rw [ByteArray.size_append, ByteArray.size_append]; rw [size42]; omega
  have e2 : (a ++ r).size ≤ 1024 := by rw [ByteArray.size_append]; omega
  rw [match_small fold _ s e1, match_small fold _ s e2]
  cases ha : firstBad a with
  | some j =>
    have b1 : ¬ firstBad (a ++ r) = none := fun h => by rw [bad_ahead a r (by omega) h0 h] at ha; cases ha
    have b2 : ¬ firstBad (a ++ one42 ++ r) = none := fun h => by
      have := bad_ahead (a ++ one42) r (by omega) h0 h
      rw [bad_ahead a one42 (by rw [get42]; omega) (by rw [size42]; omega) this] at ha; cases ha
    cases h1 : firstBad (a ++ r) with
    | none => exact absurd h1 b1
    | some x =>
      cases h2 : firstBad (a ++ one42 ++ r) with
      | none => exact absurd h2 b2
      | some y => simp
  | none =>
    obtain ⟨j1, j2⟩ := joined_app a r ha
    obtain ⟨k1, k2⟩ := joined_app a one42 ha
    rw [right42] at k1
    obtain ⟨l1, l2⟩ := joined_app (a ++ one42) r k1
    rw [j1, j2, l1, l2, k2, all42]
    have hall : ∃ B, all r = 42 :: B := by
      unfold all
      obtain ⟨g, hg⟩ : ∃ g, r.size = g + 1 := ⟨r.size - 1, by omega⟩
      rw [hg, from_step r g 0 h0, decode_ascii r 0 (by omega), hr]
      exact ⟨_, rfl⟩
    obtain ⟨B, hB⟩ := hall
    rw [hB, List.append_assoc, List.singleton_append, lang_ahead fold (all a) (42 :: 42 :: B) (42 :: B) (star_star fold B)]
    cases firstBad r <;> simp

/-- A text without signs is its own pattern. -/
theorem from_signs (s : ByteArray) (h : ∀ j, j < s.size → sign s j = false) : ∀ (g i : Nat), ∀ c ∈ from_ s g i, c ≠ 42 ∧ c ≠ 63
  | 0, i, c, hc => by simp [from_] at hc
  | g + 1, i, c, hc => by
    by_cases hi : i < s.size
    · rw [from_step s g i hi] at hc
      rcases List.mem_cons.1 hc with rfl | hc
      · have := h i hi
        rw [sign_char] at this
        have := of_decide_eq_false this
        omega
      · exact from_signs s h g _ c hc
    · rw [from_end s _ i (by omega)] at hc; cases hc
theorem same_refl (fold : Bool) (c : Int) : sameC fold c c = true := by unfold sameC; split <;> simp
theorem lang_self (fold : Bool) : ∀ (P : List Int), (∀ c ∈ P, c ≠ 42 ∧ c ≠ 63) → lang fold P P = true
  | [], _ => by rw [lang_nil]; rfl
  | c :: P, h => by
    rw [lang_one fold (h c (List.mem_cons_self ..)).1, same_refl, lang_self fold P (fun x hx => h x (List.mem_cons_of_mem _ hx))]
    simp
theorem lead_self (s : ByteArray) (h : leadOf s = s) : leadN s = s.size := by
  have := congrArg ByteArray.size h
  unfold leadOf at this
  rw [ByteArray.size_extract] at this
  have := (lead_is s).le
  omega
theorem match_self (fold : Bool) (s : ByteArray) (hz : s.size ≤ 1024) (h : leadOf s = s) : matchOf fold s s = (firstBad s).isNone := by
  rw [match_small fold s s hz, lang_self fold (all s) (from_signs s (fun j hj => (lead_is s).free j (by rw [lead_self s h]; exact hj)) _ _)]
  cases firstBad s <;> rfl
end Go.Proofs.YtjijdaheabgphaaDoor.gparts
