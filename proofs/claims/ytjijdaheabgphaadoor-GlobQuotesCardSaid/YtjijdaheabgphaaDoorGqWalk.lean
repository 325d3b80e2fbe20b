/- glob.Quote, the document's Quote, and the law on both. -/
import Derived.Test.YtjijdaheabgphaaDoorGqMath
import Derived.Test.YtjijdaheabgphaaDoorBuild
import Derived.Laws.DeepStrings4
set_option linter.unusedSimpArgs false
set_option linter.unusedVariables false
namespace Go.Proofs.YtjijdaheabgphaaDoor.globQuotes
open Go.RowKit Go.Proofs.YtjijdaheabgphaaDoor.errs Go.Proofs.YtjijdaheabgphaaDoor.rows Go.Proofs.YtjijdaheabgphaaDoor.utf Go.Proofs.YtjijdaheabgphaaDoor.chars Go.Proofs.YtjijdaheabgphaaDoor.gmath Go.Proofs.YtjijdaheabgphaaDoor.glref Go.Proofs.YtjijdaheabgphaaDoor.gparts Go.Proofs.YtjijdaheabgphaaDoor.build

theorem index_at (p : ByteArray) (k : Nat) (h : k < p.size) : ∀ w, (Instr.index 9 (.string p) (.int .i64 k)).run Tryd.prog w = .ok (.int .u8 (p.get! k).toNat) w := fun w => by
  rw [run_index_string (h := Tryd.underlying9), dif_pos (by omega)]
  have hd : k < p.data.size := h
  show Result.ok (Value.int .u8 ((p.data[(k : Int).toNat]'hd).toNat : Int)) w = Result.ok (Value.int .u8 ((p.data[k]!).toNat : Int)) w
  rw [getElem!_pos p.data k hd]
  rfl
theorem fresh_builder {B : Nat} {w0 w : World} (h : Below B w0 w) (hB : B ≤ w.heap.size) : Bld B w.heap.size [] (w.alloc (.cells #[.pointer none, .slice none 0 0] 57)) :=
  .inl ⟨hB, _, by show (w.heap.push _)[w.heap.size]? = _; simp, World.ownsRowF_nil _ _ _ _, by simp [Value.ownBlock]⟩

theorem take_next (s : ByteArray) (k : Nat) (h : k < s.size) : s.data.toList.take (k + 1) = s.data.toList.take k ++ [s.get! k] := by
  have h' : k < s.data.toList.length := by rw [Array.length_toList]; exact h
  rw [List.take_succ_eq_append_getElem h']
  show _ = _ ++ [s.data[k]!]
  rw [getElem!_pos s.data k h]
  rfl
theorem quote_next (s : ByteArray) (k : Nat) (h : k < s.size) : quoteL (s.data.toList.take (k + 1)) = quoteL (s.data.toList.take k) ++ qb (s.get! k) := by rw [take_next s k h, quoteL_snoc]
theorem quote_len (s : ByteArray) (k : Nat) : (quoteL (s.data.toList.take k)).length ≤ 2 * k := by
  have := quoteL_length (s.data.toList.take k)
  rw [List.length_take] at this
  omega
theorem quote_all (s : ByteArray) : (⟨(quoteL (s.data.toList.take s.size)).toArray⟩ : ByteArray) = quoteOf s := by
  have : s.data.toList.take s.size = s.data.toList := List.take_of_length_le (by rw [Array.length_toList]; exact Nat.le_refl _)
  rw [this]; rfl

set_option maxRecDepth 100000 in
set_option maxHeartbeats 4000000 in
theorem quote_any (s : ByteArray) (hz : s.size ≤ 1000000) (w : World) :
    Calls Tryd.prog 22 #[.string s] w fun e w' => e = .returned (.string (quoteOf s)) ∧ Below w.heap.size w w' := by
  obtain ⟨n, hn⟩ : ∃ n, Hid (s.size = n) := ⟨_, rfl⟩
  rw [hn.out] at hz
  have FB : Aside (Bld w.heap.size w.heap.size [] (w.alloc (.cells #[.pointer none, .slice none 0 0] 57)) ∧ Below w.heap.size w (w.alloc (.cells #[.pointer none, .slice none 0 0] 57))) := ⟨fresh_builder (Below.refl _ w) (Nat.le_refl _), (Below.refl _ _).alloc (Nat.le_refl _) _⟩
  go_enter Tryd.func22, Tryd.ntmps22
  go_wp2_with fail
  generalize w.alloc (.cells #[.pointer none, .slice none 0 0] 57) = W0 at FB ⊢
  generalize hkk : w.heap.size = b at FB ⊢
  have HKK := Lib.hid hkk
  clear hkk
  go_loopg [8] n (fun g t wr => ∃ k : Nat, t = .int .i64 k ∧ g + k = n ∧ Aside (Bld b b (quoteL (s.data.toList.take k)) wr ∧ Below b w wr))
  case atStart => exact ⟨0, rfl, rfl, FB.out⟩
  case round =>
    clear FB
    obtain ⟨k, rfl, hg, hA⟩ := hrel
    by_cases hlt : k < n
    · have hks : k < s.size := by rw [hn.out]; exact hlt
      have y0 : (0 : Int) ≤ (k : Int) := by omega
      have y1 : (k : Int) < (s.size : Int) := by omega
      have ix := index_at s k hks
      have QN := Lib.hid (quote_next s k hks)
      have QL := quote_len s k
      have SW : Hid (∀ wx : World, Below b w wx → b ≤ wx.heap.size) := fun wx h => by have := h.size; have := HKK.out; omega
      obtain ⟨c, hc⟩ : ∃ c, Hid (s.get! k = c) := ⟨_, rfl⟩
      rw [hc.out] at ix QN
      have W1 : ∀ (l : List UInt8) (wx : World), Bld b b l wx → l.length ≤ 3000000 → b ≤ wx.heap.size → Calls Tryd.prog 38 #[.pointer (some ⟨b, 0, none⟩), .int .u8 c.toNat] wx fun e w' => e = .returned .nilIface ∧ Bld b b (l ++ [c]) w' ∧ Below b wx w' := fun l wx h hl hb => (byte_any b b l c wx h (by omega) hb).mono fun e w' ⟨h1, h2, h3, h4⟩ => ⟨h1, h2, h3⟩
      have W2 : ∀ (l : List UInt8) (wx : World), Bld b b l wx → l.length ≤ 3000000 → b ≤ wx.heap.size → Calls Tryd.prog 38 #[.pointer (some ⟨b, 0, none⟩), .int .u8 92] wx fun e w' => e = .returned .nilIface ∧ Bld b b (l ++ [92]) w' ∧ Below b wx w' := fun l wx h hl hb => (byte_any b b l 92 wx h (by omega) hb).mono fun e w' ⟨h1, h2, h3, h4⟩ => ⟨h1, h2, h3⟩
      have HQ : Hid (qb c = if isMark c.toNat then [92, c] else [c]) := rfl
      generalize c.toNat = x at *
      have x0 : (0 : Int) ≤ (x : Int) := by omega
      have hkn := Lib.hid hlt
      by_cases hm : isMark x = true
      · have HM := Lib.hid hm
        have W2 := W2 _ wr hA.out.1 (by omega) (SW.out wr hA.out.2)
        have CS : (((x : Int) == 46) = true) ∨ (((x : Int) == 46) = false ∧ ((x : Int) == 42) = true) ∨ (((x : Int) == 46) = false ∧ ((x : Int) == 42) = false ∧ ((x : Int) == 92) = true) := by
          have := of_decide_eq_true hm
          rcases this with rfl | rfl | rfl
          · exact .inl rfl
          · exact .inr (.inl ⟨rfl, rfl⟩)
          · exact .inr (.inr ⟨rfl, rfl, rfl⟩)
        clear hm
        rcases CS with c1 | ⟨c1, c2⟩ | ⟨c1, c2, c3⟩
        all_goals go_wp2_with fail
        all_goals (refine W2.mono ?_; rintro e w3 ⟨rfl, h3, h4⟩)
        all_goals have K3 : Below b w w3 := hA.out.2.trans h4
        all_goals have W1 := W1 _ w3 h3 (by rw [List.length_append, List.length_singleton]; omega) (SW.out w3 K3)
        all_goals have K3 := Lib.hid K3
        all_goals clear h3 h4 W2
        all_goals go_wp2_with fail
        all_goals (refine W1.mono ?_; rintro e w4 ⟨rfl, h5, h6⟩)
        all_goals have K4 : Aside (Bld b b (quoteL (s.data.toList.take (k + 1))) w4 ∧ Below b w w4) := ⟨by rw [QN.out, HQ.out, if_pos HM.out]; rw [List.append_assoc] at h5; exact h5, K3.out.trans h6⟩
        all_goals clear h5 h6 W1
        all_goals go_wp2_with fail
        all_goals go_roundg (gk - 1)
        case measure => omega
        case rel => exact ⟨k + 1, by go_num, by omega, K4.out⟩
        case measure => omega
        case rel => exact ⟨k + 1, by go_num, by omega, K4.out⟩
        case measure => omega
        case rel => exact ⟨k + 1, by go_num, by omega, K4.out⟩
      · have HM := Lib.hid hm
        have hx : ¬ (x = 46 ∨ x = 42 ∨ x = 92) := fun h => hm (decide_eq_true h)
        have c1 : ((x : Int) == 46) = false := beq_eq_false_iff_ne.2 (by omega)
        have c2 : ((x : Int) == 42) = false := beq_eq_false_iff_ne.2 (by omega)
        have c3 : ((x : Int) == 92) = false := beq_eq_false_iff_ne.2 (by omega)
        have W1 := W1 _ wr hA.out.1 (by omega) (SW.out wr hA.out.2)
        clear hm hx W2
        go_wp2_with fail
        refine W1.mono ?_; rintro e w4 ⟨rfl, h5, h6⟩
        have K4 : Aside (Bld b b (quoteL (s.data.toList.take (k + 1))) w4 ∧ Below b w w4) := ⟨by rw [QN.out, HQ.out, if_neg HM.out]; exact h5, hA.out.2.trans h6⟩
        clear h5 h6 W1
        go_wp2_with fail
        go_roundg (gk - 1)
        case measure => omega
        case rel => exact ⟨k + 1, by go_num, by omega, K4.out⟩
    · obtain rfl : k = n := by omega
      have y1 : ¬ (k : Int) < (s.size : Int) := by have := hn.out; omega
      have ST := Tryd.Builder_String_any_f b b (quoteL (s.data.toList.take k)) wr hA.out.1 (by have := hA.out.2.size; have := HKK.out; omega)
      have QA : Hid ((⟨(quoteL (s.data.toList.take k)).toArray⟩ : ByteArray) = quoteOf s) := by rw [← hn.out]; exact quote_all s
      rw [QA.out] at ST
      go_wp2_with fail
      refine ST.mono ?_; rintro e w4 ⟨rfl, h5, h6⟩
      have K4 : Aside (Below b w w4) := hA.out.2.trans h6
      clear h5 h6 ST
      go_wp2_with fail
      go_ret
      exact ⟨rfl, by rw [HKK.out]; exact K4.out⟩

set_option maxRecDepth 100000 in
set_option maxHeartbeats 4000000 in
theorem rquote_any (s : ByteArray) (hz : s.size ≤ 1000000) (w : World) :
    Calls Tryd.prog 24 #[.string s] w fun e w' => e = .returned (.string (quoteOf s)) ∧ Below w.heap.size w w' := by
  obtain ⟨n, hn⟩ : ∃ n, Hid (s.size = n) := ⟨_, rfl⟩
  rw [hn.out] at hz
  go_enter Tryd.func24, Tryd.ntmps24
  go_wp2_with fail
  go_loopg [3, 4] n (fun g u t wr => ∃ (k : Nat) (X : ByteArray), u = .string X ∧ t = .int .i64 k ∧ g + k = n ∧ X.size ≤ 2 * k ∧ Aside (X = ⟨(quoteL (s.data.toList.take k)).toArray⟩ ∧ Below w.heap.size w wr))
  case atStart => exact ⟨0, ⟨#[]⟩, rfl, rfl, rfl, Nat.le_refl _, rfl, Below.refl _ _⟩
  case round =>
    obtain ⟨k, X, rfl, rfl, hg, hX, hA⟩ := hrel
    by_cases hlt : k < n
    · have hks : k < s.size := by rw [hn.out]; exact hlt
      have y0 : (0 : Int) ≤ (k : Int) := by omega
      have y1 : (k : Int) < (s.size : Int) := by omega
      have ix := index_at s k hks
      have QN := Lib.hid (quote_next s k hks)
      have QL := quote_len s (k + 1)
      have sl : ∀ w, (Instr.slice 9 (.string s) (some (.int .i64 k)) (some (.int .i64 ((k : Int) + 1))) none).run Tryd.prog w = .ok (.string (s.extract k (k + 1))) w := fun w => by
        have e5 : ((k : Int) + 1).toNat = k + 1 := by omega
        rw [run_slice_string_if (h := Tryd.underlying9), if_pos (by omega), if_pos (by omega), e5]
        rfl
      have se : (s.extract k (k + 1)).size = 1 := by rw [ByteArray.size_extract]; omega
      have SE := Lib.hid (show s.extract k (k + 1) = (⟨#[s.get! k]⟩ : ByteArray) from by
        refine ByteArray.ext (Array.ext (by exact se) fun j h1 h2 => ?_)
        have hj : j = 0 := by
          have : j < 1 := h2
          omega
        subst hj
        have hd : (s.extract k (k + 1)).data = s.data.extract k (k + 1) := ByteArray.data_extract
        have hks' : k < s.data.size := hks
        simp only [hd, Array.getElem_extract, Nat.add_zero]
        show s.data[k] = s.data[k]!
        rw [getElem!_pos s.data k hks'])
      obtain ⟨c, hc⟩ : ∃ c, Hid (s.get! k = c) := ⟨_, rfl⟩
      rw [hc.out] at ix QN SE
      have HQ : Hid (qb c = if isMark c.toNat then [92, c] else [c]) := rfl
      generalize s.extract k (k + 1) = R at *
      obtain ⟨x, hx⟩ : ∃ x, Hid (c.toNat = x) := ⟨_, rfl⟩
      rw [hx.out] at ix HQ
      by_cases hm : isMark x = true
      · have HM := Lib.hid hm
        have CS : (((x : Int) == 46) = true) ∨ (((x : Int) == 46) = false ∧ ((x : Int) == 42) = true) ∨ (((x : Int) == 46) = false ∧ ((x : Int) == 42) = false ∧ ((x : Int) == 92) = true) := by
          have := of_decide_eq_true hm
          rcases this with rfl | rfl | rfl
          · exact .inl rfl
          · exact .inr (.inl ⟨rfl, rfl⟩)
          · exact .inr (.inr ⟨rfl, rfl, rfl⟩)
        have len1 : ¬ 9223372036854775807 < X.size + 1 := by omega
        have len2 : ¬ 9223372036854775807 < X.size + 1 + R.size := by omega
        have NX : Aside (X ++ ⟨#[92]⟩ ++ R = (⟨(quoteL (s.data.toList.take (k + 1))).toArray⟩ : ByteArray) ∧ (X ++ ⟨#[92]⟩ ++ R).size ≤ 2 * (k + 1)) := by
          have e : X ++ ⟨#[92]⟩ ++ R = (⟨(quoteL (s.data.toList.take (k + 1))).toArray⟩ : ByteArray) := by
            rw [QN.out, HQ.out, if_pos HM.out, SE.out, hA.out.1]
            exact ByteArray.ext (by simp [ByteArray.data_append])
          refine ⟨e, ?_⟩
          rw [e]
          show (quoteL (s.data.toList.take (k + 1))).toArray.size ≤ _
          rw [List.size_toArray]
          exact QL
        clear hm
        rcases CS with c1 | ⟨c1, c2⟩ | ⟨c1, c2, c3⟩
        all_goals go_wp2_with fail
        all_goals go_roundg (gk - 1)
        case measure => omega
        case rel => exact ⟨k + 1, _, rfl, by go_num, by omega, NX.out.2, NX.out.1, hA.out.2⟩
        case measure => omega
        case rel => exact ⟨k + 1, _, rfl, by go_num, by omega, NX.out.2, NX.out.1, hA.out.2⟩
        case measure => omega
        case rel => exact ⟨k + 1, _, rfl, by go_num, by omega, NX.out.2, NX.out.1, hA.out.2⟩
      · have HM := Lib.hid hm
        have hx : ¬ (x = 46 ∨ x = 42 ∨ x = 92) := fun h => hm (decide_eq_true h)
        have c1 : ((x : Int) == 46) = false := beq_eq_false_iff_ne.2 (by omega)
        have c2 : ((x : Int) == 42) = false := beq_eq_false_iff_ne.2 (by omega)
        have c3 : ((x : Int) == 92) = false := beq_eq_false_iff_ne.2 (by omega)
        have len1 : ¬ 9223372036854775807 < X.size + R.size := by omega
        have NX : Aside (X ++ R = (⟨(quoteL (s.data.toList.take (k + 1))).toArray⟩ : ByteArray) ∧ (X ++ R).size ≤ 2 * (k + 1)) := by
          have e : X ++ R = (⟨(quoteL (s.data.toList.take (k + 1))).toArray⟩ : ByteArray) := by
            rw [QN.out, HQ.out, if_neg HM.out, SE.out, hA.out.1]
            exact ByteArray.ext (by simp [ByteArray.data_append])
          refine ⟨e, ?_⟩
          rw [e]
          show (quoteL (s.data.toList.take (k + 1))).toArray.size ≤ _
          rw [List.size_toArray]
          exact QL
        clear hm hx
        go_wp2_with fail
        go_roundg (gk - 1)
        case measure => omega
        case rel => exact ⟨k + 1, _, rfl, by go_num, by omega, NX.out.2, NX.out.1, hA.out.2⟩
    · obtain rfl : k = n := by omega
      have y1 : ¬ (k : Int) < (s.size : Int) := by have := hn.out; omega
      have QA : Aside (X = quoteOf s) := by
        show X = _
        rw [hA.out.1, ← hn.out]; exact quote_all s
      go_wp2_with fail
      go_ret
      exact ⟨by rw [← QA.out]; rfl, hA.out.2⟩
end Go.Proofs.YtjijdaheabgphaaDoor.globQuotes
