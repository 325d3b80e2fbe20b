/- Plain mathematics: a text in a pattern's language begins with its lead, has as many characters as it must have; a star more lets more stand there. -/
import Derived.Test.YtjijdaheabgphaaDoorGpJoin
set_option linter.unusedSimpArgs false
set_option linter.unusedVariables false
namespace Go.Proofs.YtjijdaheabgphaaDoor.gparts
open Go.RowKit Go.Proofs.YtjijdaheabgphaaDoor.errs Go.Proofs.YtjijdaheabgphaaDoor.rows Go.Proofs.YtjijdaheabgphaaDoor.utf Go.Proofs.YtjijdaheabgphaaDoor.chars Go.Proofs.YtjijdaheabgphaaDoor.gmath Go.Proofs.YtjijdaheabgphaaDoor.glref Go.Proofs.YtjijdaheabgphaaDoor.lower Go.Proofs.YtjijdaheabgphaaDoor.ref Go.Proofs.YtjijdaheabgphaaDoor.umath Go.Proofs.YtjijdaheabgphaaDoor.text

theorem lang_plain (P T : List Int) : lang false P T = lg (P.map apple) T := by
  have e : fo false = id := by funext c; rfl
  rw [lang_lg, e, List.map_id, List.map_id]
theorem lang_app (P Q T U : List Int) (h1 : lang false P T = true) (h2 : lang false Q U = true) : lang false (P ++ Q) (T ++ U) = true := by
  rw [lang_plain] at h1 h2 ⊢
  rw [List.map_append, lg_append]
  exact ⟨T, U, rfl, h1, h2⟩
theorem lang_any (T : List Int) : lang false [42] T = true := by
  induction T with
  | nil => rw [lang_end, lang_nil]; rfl
  | cons x r ih => rw [lang_star, ih, Bool.or_true]
/-- What has no signs is the beginning. -/
theorem lang_lead (B : List Int) : ∀ (A T : List Int), (∀ c ∈ A, c ≠ 42 ∧ c ≠ 63) → lang false (A ++ B) T = true → ∃ U, T = A ++ U
  | [], T, _, _ => ⟨T, rfl⟩
  | c :: A, [], h, hl => by
    rw [List.cons_append, lang_end, decide_eq_false (h c (List.mem_cons_self ..)).1] at hl
    cases hl
  | c :: A, x :: r, h, hl => by
    have hc := h c (List.mem_cons_self ..)
    rw [List.cons_append, lang_one false hc.1, decide_eq_false hc.2, Bool.false_or, same_plain, Bool.and_eq_true] at hl
    obtain ⟨U, rfl⟩ := lang_lead B A r (fun y hy => h y (List.mem_cons_of_mem _ hy)) hl.2
    have := of_decide_eq_true hl.1
    subst this
    exact ⟨U, rfl⟩
theorem lang_least (fold : Bool) (P : List Int) : ∀ (T : List Int), lang fold P T = true → (P.filter isRest).length ≤ T.length := by
  induction P with
  | nil => intro T _; simp
  | cons c P ih =>
    intro T
    induction T with
    | nil =>
      intro h
      rw [lang_end, Bool.and_eq_true, decide_eq_true_eq] at h
      have := ih [] h.2
      rw [List.filter_cons, if_neg (by simp [isRest, h.1])]
      exact this
    | cons x r ihT =>
      intro h
      by_cases hc : c = 42
      · subst hc
        rw [lang_star, Bool.or_eq_true] at h
        rcases h with h | h
        · have := ih _ h
          rw [List.filter_cons, if_neg (by simp [isRest])]
          exact this
        · have := ihT h
          rw [List.length_cons]
          omega
      · rw [lang_one fold hc, Bool.and_eq_true] at h
        have := ih r h.2
        rw [List.filter_cons, if_pos (by simp [isRest, hc]), List.length_cons, List.length_cons]
        omega
theorem same_fold {a b : Int} (h : sameC false a b = true) : sameC true a b = true := by
  rw [same_plain, decide_eq_true_eq] at h
  subst h
  exact same_refl true a
theorem lang_fold (P : List Int) : ∀ (T : List Int), lang false P T = true → lang true P T = true := by
  induction P with
  | nil => intro T h; rw [lang_nil] at h ⊢; exact h
  | cons c P ih =>
    intro T
    induction T with
    | nil =>
      intro h
      rw [lang_end, Bool.and_eq_true] at h ⊢
      exact ⟨h.1, ih _ h.2⟩
    | cons x r ihT =>
      intro h
      by_cases hc : c = 42
      · subst hc
        rw [lang_star, Bool.or_eq_true] at h ⊢
        rcases h with h | h
        · exact .inl (ih _ h)
        · exact .inr (ihT h)
      · rw [lang_one _ hc, Bool.and_eq_true, Bool.or_eq_true] at h ⊢
        refine ⟨?_, ih _ h.2⟩
        rcases h.1 with h1 | h1
        · exact .inl h1
        · exact .inr (same_fold h1)

theorem cut_eq (p : ByteArray) (k : Nat) (h : k ≤ p.size) : p.extract 0 k ++ p.extract k p.size = p := by
  rw [ByteArray.extract_append_extract]
  have e1 : min 0 k = 0 := by omega
  have e2 : max k p.size = p.size := by omega
  rw [e1, e2]
  exact ByteArray.extract_zero_size
/-- What a right pattern's lead is. -/
theorem lead_right (p : ByteArray) (hp : firstBad p = none) : firstBad (leadOf p) = none ∧ ∃ B, all p = all (leadOf p) ++ B := by
  have L := lead_is p
  have hc : leadOf p ++ p.extract (leadN p) p.size = p := cut_eq p (leadN p) L.le
  have hb : firstBad (leadOf p) = none := by
    by_cases h : leadN p < p.size
    · have h1 := L.hit h
      unfold sign at h1
      have h1 := of_decide_eq_true h1
      refine bad_ahead (leadOf p) (p.extract (leadN p) p.size) ?_ ?_ (by rw [hc]; exact hp)
      · rw [Lib.tail_get!, Nat.add_zero]; omega
      · rw [ByteArray.size_extract]; omega
    · have : leadN p = p.size := by have := L.le; omega
      unfold leadOf
      rw [this, ByteArray.extract_zero_size]
      exact hp
  refine ⟨hb, all (p.extract (leadN p) p.size), ?_⟩
  have := (joined_app (leadOf p) (p.extract (leadN p) p.size) hb).2
  rw [hc] at this
  exact this
theorem lead_signs (p : ByteArray) : ∀ c ∈ all (leadOf p), c ≠ 42 ∧ c ≠ 63 := by
  have L := lead_is p
  have hs : (leadOf p).size = leadN p := by unfold leadOf; rw [ByteArray.size_extract]; have := L.le; omega
  refine from_signs (leadOf p) (fun j hj => ?_) _ _
  rw [hs] at hj
  have := L.free j hj
  have hc : leadOf p ++ p.extract (leadN p) p.size = p := cut_eq p (leadN p) L.le
  unfold sign at this ⊢
  rw [← app_left (leadOf p) (p.extract (leadN p) p.size) j (by omega), hc]
  exact this
/-- Right bytes whose characters begin with another's begin with its bytes. -/
theorem bytes_lead (l s : ByteArray) (hl : firstBad l = none) (hs : firstBad s = none) (U : List Int) (h : all s = all l ++ U) : l.size ≤ s.size ∧ s.extract 0 l.size = l := by
  obtain ⟨-, a2, a3⟩ := unput l l.size 0 (by omega) (by omega) hl
  obtain ⟨-, b2, b3⟩ := unput s s.size 0 (by omega) (by omega) hs
  have e : (from_ s s.size 0).flatMap put = (from_ l l.size 0).flatMap put ++ U.flatMap put := by
    have h' : from_ s s.size 0 = from_ l l.size 0 ++ U := h
    rw [h', List.flatMap_append]
  rw [e] at b2 b3
  rw [List.length_append] at b3
  have hle : l.size ≤ s.size := by omega
  have hz : (s.extract 0 l.size).size = l.size := by rw [ByteArray.size_extract]; omega
  refine ⟨hle, ?_⟩
  have key : ∀ j, j < l.size → s.get! j = l.get! j := fun j hj => by
    have h1 := b2.2 j (by rw [List.length_append]; omega)
    have h2 := a2.2 j (by omega)
    rw [Nat.zero_add] at h1 h2
    rw [List.getD_eq_getElem?_getD, List.getElem?_append_left (by omega), ← List.getD_eq_getElem?_getD, ← h2] at h1
    unfold bt at h1
    exact UInt8.toNat_inj.1 (by omega)
  refine ByteArray.ext (Array.ext (by exact hz) fun j h1 h2 => ?_)
  have hj : j < l.size := h2
  have := key j hj
  have ht : (s.extract 0 l.size).get! j = s.get! j := by
    have hc : s.extract 0 l.size ++ s.extract l.size s.size = s := cut_eq s l.size hle
    have := app_left (s.extract 0 l.size) (s.extract l.size s.size) j (by omega)
    rw [hc] at this
    exact this.symm
  have e1 : (s.extract 0 l.size).get! j = (s.extract 0 l.size).data[j] := getElem!_pos _ j h1
  have e2 : l.get! j = l.data[j] := getElem!_pos _ j h2
  rw [← e1, ← e2, ht, this]

/-- What the law on leads says of a text in a pattern's language. -/
structure LeadsFacts (p s : ByteArray) : Prop where
  le : (leadOf p).size ≤ s.size
  pre : s.extract 0 (leadOf p).size = leadOf p
  least : leastOf p ≤ (all s).length
  fold : matchOf true p s = true
  right : firstBad s = none
  more : ∀ m : ByteArray, firstBad m = none → matchOf false (p ++ one42) (s ++ m) = true ∧ matchOf false (one42 ++ p) (m ++ s) = true
theorem leads_facts (p s : ByteArray) (hz : p.size ≤ 1000) (h : matchOf false p s = true) : LeadsFacts p s := by
  have hm := match_small false p s (by omega)
  rw [hm, Bool.and_eq_true, Bool.and_eq_true, Option.isNone_iff_eq_none, Option.isNone_iff_eq_none] at h
  obtain ⟨⟨hp, hs⟩, hl⟩ := h
  obtain ⟨h1, B, h2⟩ := lead_right p hp
  have hl' := hl
  rw [h2] at hl'
  obtain ⟨U, hU⟩ := lang_lead B _ _ (lead_signs p) hl'
  obtain ⟨k1, k2⟩ := bytes_lead (leadOf p) s h1 hs U hU
  refine ⟨k1, k2, ?_, ?_, hs, fun m hmm => ?_⟩
  · have := lang_least false _ _ hl
    unfold leastOf
    have hc := check_small p (by omega)
    rw [hp] at hc
    rw [if_pos (of_decide_eq_true hc)]
    exact this
  · rw [match_small true p s (by omega), hp, hs, lang_fold _ _ hl]; rfl
  · obtain ⟨j1, j2⟩ := joined_app p one42 hp
    obtain ⟨i1, i2⟩ := joined_app s m hs
    obtain ⟨l1, l2⟩ := joined_app one42 p right42
    obtain ⟨o1, o2⟩ := joined_app m s hmm
    rw [right42] at j1
    rw [hmm] at i1
    rw [hp] at l1
    rw [hs] at o1
    rw [match_small false _ _ (by rw [ByteArray.size_append, size42]; omega), match_small false _ _ (by rw [ByteArray.size_append, size42]; omega), j1, j2, i1, i2, l1, l2, o1, o2, all42, lang_app _ _ _ _ hl (lang_any _), lang_app _ _ _ _ (lang_any _) hl]
    exact ⟨rfl, rfl⟩
end Go.Proofs.YtjijdaheabgphaaDoor.gparts
