/- glob.readSimple: the parts of a pattern with points and stars, or what is wrong with it. -/
import Derived.Test.YtjijdaheabgphaaDoorGpMatch
set_option linter.unusedSimpArgs false
set_option linter.unusedVariables false
namespace Go.Proofs.YtjijdaheabgphaaDoor.gparts
open Go.RowKit Go.Proofs.YtjijdaheabgphaaDoor.errs Go.Proofs.YtjijdaheabgphaaDoor.rows Go.Proofs.YtjijdaheabgphaaDoor.utf Go.Proofs.YtjijdaheabgphaaDoor.chars Go.Proofs.YtjijdaheabgphaaDoor.gmath Go.Proofs.YtjijdaheabgphaaDoor.glref Go.Proofs.YtjijdaheabgphaaDoor.lower

/-- The last part for any number of such. -/
def manyLast (acc : List Pt) : List Pt := acc.dropLast ++ [⟨(at_ acc (acc.length - 1)).char, (at_ acc (acc.length - 1)).free, true⟩]
def lastMany (acc : List Pt) : Bool := (at_ acc (acc.length - 1)).many
/-- What is wrong (0: nothing), where, and the parts, read from a place on. -/
def prs (s : ByteArray) : Nat → Nat → List Pt → Bool → (Int × Int) × List Pt
  | 0, _, acc, esc => if esc then ((10, s.size), []) else ((0, 0), acc)
  | g + 1, i, acc, esc => if i < s.size then
      (if ((Utf8.decode s i).1 : Int) = 42 ∧ esc = false then
        (if acc.length = 0 ∨ lastMany acc = true then ((11, i), []) else prs s g (i + (Utf8.decode s i).2) (manyLast acc) false)
      else if ((Utf8.decode s i).1 : Int) = 92 ∧ esc = false then prs s g (i + (Utf8.decode s i).2) acc true
      else prs s g (i + (Utf8.decode s i).2) (acc ++ [⟨(Utf8.decode s i).1, decide (((Utf8.decode s i).1 : Int) = 46) && !esc, false⟩]) false)
    else (if esc then ((10, s.size), []) else ((0, 0), acc))
def prsOf (s : ByteArray) : (Int × Int) × List Pt := prs s s.size 0 [] false
theorem prs_end (s : ByteArray) (g i : Nat) (acc : List Pt) (esc : Bool) (h : ¬ i < s.size) : prs s g i acc esc = if esc then (((10 : Int), (s.size : Int)), ([] : List Pt)) else ((0, 0), acc) := by
  cases g with
  | zero => rfl
  | succ g => unfold prs; rw [if_neg h]

theorem manyLast_length {acc : List Pt} (h : 0 < acc.length) : (manyLast acc).length = acc.length := by
  unfold manyLast
  rw [List.length_append, List.length_dropLast]
  simp
  omega
theorem flat_manyLast {acc : List Pt} (h : 0 < acc.length) : flat (manyLast acc) = (flat acc).set ((acc.length - 1) * 3 + 2) (.bool true) := by
  have e : acc = acc.dropLast ++ [at_ acc (acc.length - 1)] := by
    have h0 : acc ≠ [] := by intro e; rw [e] at h; cases h
    have := (List.dropLast_concat_getLast h0).symm
    rw [List.getLast_eq_getElem h0] at this
    unfold at_
    rw [List.getD_eq_getElem?_getD, List.getElem?_eq_getElem (show acc.length - 1 < acc.length by omega)]
    exact this
  have hl : (flat acc.dropLast).length = (acc.length - 1) * 3 := by rw [flat_length, List.length_dropLast]
  have ef : flat acc = flat acc.dropLast ++ enc (at_ acc (acc.length - 1)) := by
    rw [← flat_one, ← flat_append, ← e]
  unfold manyLast
  rw [ef, flat_append, flat_one, ← hl, List.set_append_right _ _ (by omega), show (flat acc.dropLast).length + 2 - (flat acc.dropLast).length = 2 by omega]
  rfl

/-- What readSimple answers. -/
def SimpOut (r : (Int × Int) × List Pt) (w : World) (e : Ending) (w' : World) : Prop :=
  if r.1.1 = 0 then ∃ v, e = .returned (.tuple #[v, .nilIface]) ∧ Aside (w'.ownsRow w.heap.size 51 3 v r.2.length (flat r.2) ∧ Below w.heap.size w w')
  else Failed w e w' r.1.1 r.1.2 (fun v => .tuple #[.slice none 0 0, v])

/-- An owned row of parts opened. -/
theorem own_parts_open {w : World} {B : Nat} {v : Value} {ps : List Pt} (h : w.ownsRow B 51 3 v ps.length (flat ps)) (h0 : 0 < ps.length) :
    ∃ g cap, v = .slice (some ⟨g, 0, none⟩) ps.length cap ∧ ps.length ≤ cap ∧ cap ≤ 9223372036854775807 ∧ B ≤ g ∧ (∀ j, j < ps.length → PtAt w g (j * 3) (at_ ps j)) ∧ ∀ j, w.frozen? ⟨g, j, none⟩ = false := by
  rcases h.2 with ⟨rfl, hn⟩ | ⟨g, cap, cur, rfl, hB, hg, hn, hm, hs, ht⟩
  · omega
  · refine ⟨g, cap, rfl, hn, by unfold maxLen at hm; omega, hB, ?_, fun j => h.frozenAt j⟩
    obtain ⟨a, c, ev, -, -, q⟩ := own_parts h
    obtain ⟨b, rfl, hb⟩ := q h0
    simp only [Value.slice.injEq, Option.some.injEq, Addr.mk.injEq] at ev
    obtain ⟨⟨rfl, -, -⟩, -, -⟩ := ev
    exact hb

set_option maxRecDepth 100000 in
set_option maxHeartbeats 8000000 in
theorem readSimple_any (s : ByteArray) (w : World) (hz : s.size ≤ 1000000) :
    Calls Tryd.prog 37 #[.string s] w fun e w' => SimpOut (prsOf s) w e w' := by
  obtain ⟨n, hn⟩ : ∃ n, Hid (s.size = n) := ⟨_, rfl⟩
  rw [hn.out] at hz
  obtain ⟨res, hres⟩ : ∃ res, Hid (prsOf s = res) := ⟨_, rfl⟩
  rw [hres.out]
  have FA := fun k a w => fail_any k a w
  go_enter Tryd.func37, Tryd.ntmps37
  go_wp2_with fail
  obtain ⟨i0, hi, hz0, hz1, hz2⟩ := info_parts infoPart
  have hit0 : Aside (Itr (w.iter s 0) w.heap.size s 0) := World.iter_heap w s 0
  have hbw : Aside (Below w.heap.size w (w.iter s 0)) := (Below.refl _ _).alloc (Nat.le_refl _) _
  generalize w.iter s 0 = w2 at *
  generalize hkk : w.heap.size = k0 at *
  have HKK := Lib.hid hkk
  clear hkk
  go_loopg [4, 5] n (fun g t u wr => ∃ (pos : Nat) (acc : List Pt) (esc : Bool) (t0 : Value), t0 = t ∧ u = .bool esc ∧ pos ≤ n ∧ n ≤ pos + g ∧ acc.length ≤ pos ∧ Aside (prs s g pos acc esc = res ∧ wr.ownsRow (k0 + 1) 51 3 t0 acc.length (flat acc) ∧ Itr wr k0 s pos ∧ Below k0 w wr))
  case atStart => exact ⟨0, [], false, _, rfl, rfl, by omega, by omega, by simp, by rw [← hres.out]; unfold prsOf; rw [hn.out], World.ownsRow_nil w2 _ _ _, hit0.out, hbw.out⟩
  case round =>
    clear hit0 hbw
    obtain ⟨pos, acc, esc, t0, rfl, rfl, hp, hg, hal, hA⟩ := hrel
    by_cases hlt : pos < n
    · obtain ⟨g, rfl⟩ : ∃ g, gk = g + 1 := ⟨gk - 1, by omega⟩
      have hps : pos < s.size := by rw [hn.out]; exact hlt
      have hnx := fun ty => Lib.run_next_any_at (P := Tryd.prog) wr k0 s pos ty hA.out.2.2.1 hps
      have hf := hA.out.1
      unfold prs at hf
      rw [if_pos hps] at hf
      have hfit := decode_fits s pos hps
      rw [hn.out] at hfit
      obtain ⟨b1, b2, b3⟩ := decode_bounds s pos
      have hk0w : k0 < wr.heap.size := hA.out.2.2.1.lt
      have hown : (wr.iterAt k0 s (pos + (Utf8.decode s pos).2)).ownsRow (k0 + 1) 51 3 t0 acc.length (flat acc) := ownsRow_iterAt hA.out.2.1 (by omega) s _
      have hsz : k0 < (wr.iterAt k0 s (pos + (Utf8.decode s pos).2)).heap.size := by rw [Lib.iterAt_size]; exact hk0w
      have Q : Aside (Itr (wr.iterAt k0 s (pos + (Utf8.decode s pos).2)) k0 s (pos + (Utf8.decode s pos).2) ∧ Below k0 w (wr.iterAt k0 s (pos + (Utf8.decode s pos).2)) ∧ (wr.iterAt k0 s (pos + (Utf8.decode s pos).2)).ownsRow (k0 + 1) 51 3 t0 acc.length (flat acc)) := ⟨hA.out.2.2.1.at _, Lib.below_iterAt hA.out.2.2.2 (Nat.le_refl _) s _, hown⟩
      clear hown hA
      generalize ((Utf8.decode s pos).1 : Int) = c at *
      generalize (Utf8.decode s pos).2 = K at *
      generalize wr.iterAt k0 s (pos + K) = W at *
      have AP : ∀ (pt : Pt) (x : Operand) (rest : List Oper) (ops : Array Oper) (a : Act) (QQ : Exit → Act → World → Prop) (o : Oper) (hgd : o.guard = none) (y : Operand) (ho : o.op = .call { callee := .builtin .append, args := #[y, x], argTypes := #[41, 41] }) (hy : a.eval y = t0) (hx : a.eval x = .slice (some ⟨W.heap.size, 0, none⟩) 1 1)
          (h : ∀ v' w', Aside (w'.ownsRow (k0 + 1) 51 3 v' (acc ++ [pt]).length (flat (acc ++ [pt])) ∧ Itr w' k0 s (pos + K) ∧ Below k0 w w') → wpList Tryd.prog ops QQ rest (a.put o.dst v') w'),
          wpList Tryd.prog ops QQ (o :: rest) a (W.alloc (.cells #[.int .i32 pt.char, .bool pt.free, .bool pt.many] 51)) := fun pt x rest ops a QQ o hgd y ho hy hx h => by
        refine wpList_append_own _ hgd y x 41 ho (k0 + 1) 51 i0 _ 3 8 Tryd.underlying41 hi hz0 hz1 hz2 rfl (by decide) t0 acc.length (flat acc) hy (Q.out.2.2.alloc _) ⟨W.heap.size, 0, none⟩ 1 1 (enc pt) hx rfl (news_part W pt _ 0 rfl) (fun u hu => flat_cells [pt] u (by rw [flat_one]; exact hu)) (by unfold maxLen; omega) (by omega) (by simp; omega) ?_
        intro v' w3 hown' hgrow _
        refine h v' w3 ?_
        have hl := Q.out.2.2.lt
        refine ⟨?_, ?_, ?_⟩
        · rw [flat_append, flat_one, List.length_append]
          exact hown'
        · unfold Itr
          rw [hgrow.block k0 (by simp; omega) (fun e => by have := (hl k0 e.symm).1; omega), Below.heap_alloc _ _ _ hsz]
          exact Q.out.1
        · refine (Q.out.2.1.alloc (by omega) _).grown hgrow (by simp; omega) (fun q hq => by have := (hl q hq).1; omega)
      have HF := Lib.hid hf
      clear hf hps
      by_cases h42 : c = 42
      · subst h42
        cases esc with
        | true =>
          have hf : Hid (prs s g (pos + K) (acc ++ [⟨42, false, false⟩]) false = res) := Lib.hid (by have := HF.out; simpa using this)
          go_wp2_with (at_builtin; refine AP ⟨42, false, false⟩ _ _ _ _ _ _ rfl _ rfl rfl rfl ?_; intro v' w3 N)
          go_roundg g
          case measure => omega
          case rel => exact ⟨pos + K, acc ++ [⟨42, false, false⟩], false, v', rfl, rfl, by omega, by omega, by simp; omega, hf.out, N.out⟩
        | false =>
          by_cases h0 : acc.length = 0
          · have V : Aside (res = (((11 : Int), (pos : Int)), ([] : List Pt))) := by
              have := HF.out
              rw [if_pos ⟨rfl, rfl⟩, if_pos (.inl h0)] at this
              exact this.symm
            have ha : acc = [] := List.length_eq_zero_iff.1 h0
            subst ha
            obtain ⟨b0, cc, e0⟩ : ∃ b0 cc, t0 = .slice b0 0 cc := by
              obtain ⟨a, c, e, -⟩ := own_parts Q.out.2.2
              exact ⟨a, c, e⟩
            subst e0
            clear h0
            go_wp2_with fail
            refine (FA _ _ _).mono ?_; rintro e w1 ⟨rfl, rfl⟩
            go_wp2_with fail
            go_ret2
            rw [V.out]
            unfold SimpOut
            rw [if_neg (show ¬ ((11 : Int) = 0) by decide)]
            have hk := HKK.out
            refine ⟨_, rfl, fault_new W 11 pos .nilIface, ?_⟩
            rw [hk]
            exact Q.out.2.1.alloc (by have := Q.out.2.1.size; omega) _
          · obtain ⟨gb, cap, e0, q1, q2, q3, q4, q5⟩ := own_parts_open Q.out.2.2 (by omega)
            subst e0
            obtain ⟨L, hL⟩ : ∃ L, Hid (acc.length = L) := ⟨_, rfl⟩
            have hL' := hL.out
            obtain ⟨q, rfl⟩ : ∃ q, L = q + 1 := ⟨L - 1, by omega⟩
            obtain ⟨-, -, p2⟩ := q4 q (by omega)
            have p3 := q5 (q * 3 + 2)
            have lm : lastMany acc = (at_ acc q).many := by unfold lastMany; rw [hL', Nat.add_sub_cancel]
            obtain ⟨mn, hmn⟩ : ∃ mn, Hid ((at_ acc q).many = mn) := ⟨_, rfl⟩
            rw [hmn.out] at p2 lm
            have HLM := Lib.hid lm
            have q6 : q ≤ 1000000 := by omega
            rw [hL'] at q1
            have EQ : Aside ((Value.slice (some ⟨gb, 0, none⟩) acc.length cap) = .slice (some ⟨gb, 0, none⟩) (q + 1) cap) := by show _ = _; rw [hL']
            have z1 : (0 : Int) ≤ (q : Int) := by omega
            have z2 : (q : Int) ≤ 1000000 := by omega
            clear AP
            rw [EQ.out]
            cases mn with
            | true =>
              have V : Aside (res = (((11 : Int), (pos : Int)), ([] : List Pt))) := by
                have := HF.out
                rw [if_pos ⟨rfl, rfl⟩, if_pos (.inr HLM.out)] at this
                exact this.symm
              clear hL' q4 q5 EQ lm
              go_wp2_with fail
              refine (FA _ _ _).mono ?_; rintro e w1 ⟨rfl, rfl⟩
              go_wp2_with fail
              go_ret2
              rw [V.out]
              unfold SimpOut
              rw [if_neg (show ¬ ((11 : Int) = 0) by decide)]
              have hk := HKK.out
              refine ⟨_, rfl, fault_new W 11 pos .nilIface, ?_⟩
              rw [hk]
              exact Q.out.2.1.alloc (by have := Q.out.2.1.size; omega) _
            | false =>
              have hf : Hid (prs s g (pos + K) (manyLast acc) false = res) := Lib.hid (by
                have := HF.out
                rwa [if_pos ⟨rfl, rfl⟩, if_neg (by rw [HLM.out]; simp [hL'])] at this)
              have ST : Aside ((W.setCell ⟨gb, q * 3 + 2, none⟩ (.bool true)).ownsRow (k0 + 1) 51 3 (.slice (some ⟨gb, 0, none⟩) (q + 1) cap) (manyLast acc).length (flat (manyLast acc)) ∧ (manyLast acc).length = acc.length) := by
                have h1 := (Q.out.2.2.stored (q * 3 + 2) (.bool true)).1
                have h2 : (manyLast acc).length = acc.length := manyLast_length (by omega)
                refine ⟨?_, h2⟩
                rw [h2, flat_manyLast (by omega)]
                rw [hL', Nat.add_sub_cancel]
                rw [hL'] at h1
                exact h1
              clear hL' q4 q5 EQ lm
              go_wp2_with fail
              go_roundg g
              case measure => omega
              case rel => exact ⟨pos + K, manyLast acc, false, _, rfl, rfl, by omega, by omega, by rw [ST.out.2]; omega, hf.out, ST.out.1, Q.out.1.set (by omega) _, Q.out.2.1.setCell (p := ⟨gb, q * 3 + 2, none⟩) (show k0 ≤ gb by omega) _⟩
      · by_cases h92 : c = 92
        · subst h92
          cases esc with
          | true =>
            have hf : Hid (prs s g (pos + K) (acc ++ [⟨92, false, false⟩]) false = res) := Lib.hid (by have := HF.out; simpa using this)
            go_wp2_with (at_builtin; refine AP ⟨92, false, false⟩ _ _ _ _ _ _ rfl _ rfl rfl rfl ?_; intro v' w3 N)
            go_roundg g
            case measure => omega
            case rel => exact ⟨pos + K, acc ++ [⟨92, false, false⟩], false, v', rfl, rfl, by omega, by omega, by simp; omega, hf.out, N.out⟩
          | false =>
            have hf : Hid (prs s g (pos + K) acc true = res) := Lib.hid (by have := HF.out; simpa using this)
            clear AP
            go_wp2_with fail
            go_roundg g
            case measure => omega
            case rel => exact ⟨pos + K, acc, true, t0, rfl, rfl, by omega, by omega, by omega, hf.out, Q.out.2.2, Q.out.1, Q.out.2.1⟩
        · have e1 : (c == 42) = false := beq_eq_false_iff_ne.2 h42
          have e2 : (c == 92) = false := beq_eq_false_iff_ne.2 h92
          have hf : Hid (prs s g (pos + K) (acc ++ [⟨c, decide (c = 46) && !esc, false⟩]) false = res) := Lib.hid (by have := HF.out; rwa [if_neg (fun h => h42 h.1), if_neg (fun h => h92 h.1)] at this)
          clear h42 h92
          by_cases h46 : c = 46
          · subst h46
            cases esc with
            | true =>
              have hf : Hid (prs s g (pos + K) (acc ++ [⟨46, false, false⟩]) false = res) := hf
              go_wp2_with (at_builtin; refine AP ⟨46, false, false⟩ _ _ _ _ _ _ rfl _ rfl rfl rfl ?_; intro v' w3 N)
              go_roundg g
              case measure => omega
              case rel => exact ⟨pos + K, acc ++ [⟨46, false, false⟩], false, v', rfl, rfl, by omega, by omega, by simp; omega, hf.out, N.out⟩
            | false =>
              have hf : Hid (prs s g (pos + K) (acc ++ [⟨46, true, false⟩]) false = res) := hf
              go_wp2_with (at_builtin; refine AP ⟨46, true, false⟩ _ _ _ _ _ _ rfl _ rfl rfl rfl ?_; intro v' w3 N)
              go_roundg g
              case measure => omega
              case rel => exact ⟨pos + K, acc ++ [⟨46, true, false⟩], false, v', rfl, rfl, by omega, by omega, by simp; omega, hf.out, N.out⟩
          · have e3 : (c == 46) = false := beq_eq_false_iff_ne.2 h46
            have hf : Hid (prs s g (pos + K) (acc ++ [⟨c, false, false⟩]) false = res) := Lib.hid (by have := hf.out; rwa [decide_eq_false h46, Bool.false_and] at this)
            clear h46
            go_wp2_with (at_builtin; refine AP ⟨c, false, false⟩ _ _ _ _ _ _ rfl _ rfl rfl rfl ?_; intro v' w3 N)
            go_roundg g
            case measure => omega
            case rel => exact ⟨pos + K, acc ++ [⟨c, false, false⟩], false, v', rfl, rfl, by omega, by omega, by simp; omega, hf.out, N.out⟩
    · have hpn : ¬ pos < s.size := by rw [hn.out]; exact hlt
      have hnx := fun ty => Lib.run_next_end_at (P := Tryd.prog) wr k0 s pos ty hA.out.2.2.1 hpn
      have V := hA.out.1
      rw [prs_end s gk pos acc esc hpn] at V
      cases esc with
      | true =>
        rw [if_pos rfl] at V
        have V := Lib.hid V
        go_wp2_with fail
        refine (FA _ _ _).mono ?_; rintro e w1 ⟨rfl, rfl⟩
        go_wp2_with fail
        go_ret2
        rw [← V.out]
        unfold SimpOut
        rw [if_neg (show ¬ ((10 : Int) = 0) by decide)]
        have hk := HKK.out
        refine ⟨_, rfl, fault_new wr 10 s.size .nilIface, ?_⟩
        rw [hk]
        exact hA.out.2.2.2.alloc (by have := hA.out.2.2.2.size; omega) _
      | false =>
        rw [if_neg (by decide)] at V
        have V := Lib.hid V
        go_wp2_with fail
        go_ret2
        rw [← V.out]
        unfold SimpOut
        rw [if_pos rfl]
        have hk := HKK.out
        rw [hk]
        exact ⟨t0, rfl, hA.out.2.1.mono (by omega), hA.out.2.2.2⟩
end Go.Proofs.YtjijdaheabgphaaDoor.gparts
