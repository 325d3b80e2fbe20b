/- media.readParams. -/
import Derived.Test.YtelofhplpeeplaaDoorMdPar
import Derived.Laws.AppendOwn
import Derived.Laws.OwnMore
set_option linter.unusedSimpArgs false
set_option linter.unusedVariables false
namespace Go.Proofs.YtelofhplpeeplaaDoor.media
open Go.RowKit Go.Proofs.YtelofhplpeeplaaDoor.errs

theorem own_below {w w' : World} {B n k : Nat} {e : TypeId} {v : Value} {xs : List Value} (h : w.ownsRow B e k v n xs) (hb : Below w.heap.size w w') : w'.ownsRow B e k v n xs := by
  refine ⟨h.1, ?_⟩
  rcases h.2 with h0 | ⟨g, cap, cur, hv, hB, hg, hr⟩
  · exact .inl h0
  · refine .inr ⟨g, cap, cur, hv, hB, ?_, hr⟩
    have hlt : g < w.heap.size := (Array.getElem?_eq_some_iff.1 hg).1
    rw [hb.block g hlt]
    exact hg
theorem news_item (w : World) (p : It) : ∀ j u, (enc p)[j]? = some u → (w.alloc (.cells #[.string p.name, .string p.value, .bool p.has] 122)).cell? ((⟨w.heap.size, 0, none⟩ : Addr).add j) = some u := by
  intro j u hj
  rw [show (Addr.add ⟨w.heap.size, 0, none⟩ j : Addr) = ⟨w.heap.size, j, none⟩ by unfold Addr.add; split <;> simp_all, World.cell?_alloc_at _ _ _ _ rfl]
  have h3 : j < 3 := (List.getElem?_eq_some_iff.1 hj).1
  rcases (show j = 0 ∨ j = 1 ∨ j = 2 by omega) with rfl | rfl | rfl <;> exact hj
/-- What the append of a parameter leaves. -/
structure PutIt (base : Nat) (W w' : World) (v' : Value) (ps : List It) : Prop where
  own : w'.ownsRow base 122 3 v' ps.length (flat ps)
  below : Below base W w'
theorem push_item {i : TypeInfo} (hi : Tryd.prog.info? 122 = some i) (hz : i.zero = some (.agg #[.string ⟨#[]⟩, .string ⟨#[]⟩, .bool false])) (hsize : i.size = 3) (hby : i.bytes = 40)
    {base : Nat} {W : World} {v : Value} {ps : List It} (hown : W.ownsRow base 122 3 v ps.length (flat ps)) (a0 b0 : ByteArray) (h0 : Bool) (hn : ps.length ≤ 1000000) (hb : base ≤ W.heap.size)
    {ops : Array Oper} {rest : List Oper} {o : Oper} {a : Act} {Q : Exit → Act → World → Prop} (hgd : o.guard = none) (y x : Operand) (ho : o.op = .call { callee := .builtin .append, args := #[y, x], argTypes := #[94, 94] }) (hy : a.eval y = v) (bb : Nat) (hx : a.eval x = .slice (some ⟨bb, 0, none⟩) 1 1) (hbb : bb = W.heap.size)
    (h : ∀ v' w', PutIt base W w' v' (ps ++ [⟨a0, b0, h0⟩]) → wpList Tryd.prog ops Q rest (a.put o.dst v') w') : wpList Tryd.prog ops Q (o :: rest) a (W.alloc (.cells #[.string a0, .string b0, .bool h0] 122)) := by
  rw [hbb] at hx
  refine wpList_append_own _ hgd y x 94 ho base 122 i _ 3 40 Tryd.underlying94 hi hz hsize hby rfl (by decide) v ps.length (flat ps) hy (hown.alloc _) ⟨W.heap.size, 0, none⟩ 1 1 (enc ⟨a0, b0, h0⟩) hx rfl (news_item W ⟨a0, b0, h0⟩) (fun u hu => flat_cells [⟨a0, b0, h0⟩] u (by rw [flat_single]; exact hu)) (by unfold maxLen; omega) (by omega) (by simp; omega) ?_
  intro v' w' hown' hgrow _
  refine h v' w' ⟨?_, ((Below.refl base W).alloc hb _).grown hgrow (by simp; omega) (fun q hq => (hown.lt q hq).1)⟩
  rw [flat_append, flat_single, List.length_append]
  exact hown'

/-- A slice that holds parameters, in a block that was not there. -/
def ItemsFrom (B : Nat) (w : World) (v : Value) (ps : List It) : Prop :=
  ∃ a cap, v = .slice a ps.length cap ∧ ps.length ≤ cap ∧ cap ≤ 9223372036854775807 ∧ (0 < ps.length → ∃ b o, a = some ⟨b, o, none⟩ ∧ B ≤ b ∧ ∀ j, j < ps.length → ItAt w b (o + j * 3) (itAt ps j))
theorem ItemsFrom.in {B : Nat} {w : World} {v : Value} {ps : List It} (h : ItemsFrom B w v ps) : ItemsIn w v ps := by
  obtain ⟨a, cap, rfl, h1, h2, h3⟩ := h
  refine ⟨a, cap, rfl, h1, h2, fun h => ?_⟩
  obtain ⟨b, o, rfl, -, hB⟩ := h3 h
  exact ⟨b, o, rfl, hB⟩
theorem ItemsFrom.below {B : Nat} {w w' : World} {v : Value} {ps : List It} (h : ItemsFrom B w v ps) (hb : Below w.heap.size w w') : ItemsFrom B w' v ps := by
  obtain ⟨a, cap, rfl, h1, h2, h3⟩ := h
  refine ⟨a, cap, rfl, h1, h2, fun h => ?_⟩
  obtain ⟨b, o, rfl, hb2, hB⟩ := h3 h
  exact ⟨b, o, rfl, hb2, fun j hj => (hB j hj).below hb⟩
theorem ItemsFrom.setCell {B : Nat} {w : World} {v : Value} {ps : List It} (h : ItemsFrom B w v ps) (p : Addr) (hp : p.block < B) (x : Value) : ItemsFrom B (w.setCell p x) v ps := by
  obtain ⟨a, cap, rfl, h1, h2, h3⟩ := h
  refine ⟨a, cap, rfl, h1, h2, fun h => ?_⟩
  obtain ⟨b, o, rfl, hb2, hB⟩ := h3 h
  have ne : ∀ k : Nat, p ≠ ⟨b, k, none⟩ := fun k e => by rw [e] at hp; exact absurd hp (by simpa using hb2)
  refine ⟨b, o, rfl, hb2, fun j hj => ?_⟩
  obtain ⟨c0, c1, c2⟩ := hB j hj
  exact ⟨(World.cell?_setCell_other _ _ _ _ (ne _)).trans c0, (World.cell?_setCell_other _ _ _ _ (ne _)).trans c1, (World.cell?_setCell_other _ _ _ _ (ne _)).trans c2⟩
theorem own_from {w : World} {B : Nat} {v : Value} {ps : List It} (h : w.ownsRow B 122 3 v ps.length (flat ps)) : ItemsFrom B w v ps := by
  rcases h.2 with ⟨rfl, hn⟩ | ⟨g, cap, cur, rfl, hB, hg, hn, hm, hs, ht⟩
  · have hz : ps = [] := List.length_eq_zero_iff.1 hn
    subst hz
    exact ⟨none, 0, rfl, Nat.le_refl _, by omega, fun h => absurd h (Nat.not_lt_zero _)⟩
  · refine ⟨_, cap, rfl, hn, by unfold maxLen at hm; omega, fun _ => ⟨g, 0, rfl, hB, fun j hj => ?_⟩⟩
    rw [Nat.zero_add]
    refine ⟨?_, ?_, ?_⟩
    · have := h.cellAt (j * 3 + 0) (by omega)
      rw [flat_at ps j 0 hj (by omega)] at this
      exact this
    · have := h.cellAt (j * 3 + 1) (by omega)
      rw [flat_at ps j 1 hj (by omega)] at this
      exact this
    · have := h.cellAt (j * 3 + 2) (by omega)
      rw [flat_at ps j 2 hj (by omega)] at this
      exact this
def join (acc : List It) : Option (List It) → Option (List It)
  | none => none
  | some ps => some (acc ++ ps)
/-- What reading parameters answers. -/
def ParsOut (o : Option (List It)) (w : World) (e : Ending) (w' : World) : Prop :=
  ∃ (v : Value) (ok : Bool), e = .returned (.tuple #[v, .bool ok]) ∧ Below w.heap.size w w' ∧ (∃ ad n c, v = .slice ad n c) ∧ (match o with | none => ok = false | some ps => ok = true ∧ ItemsFrom w.heap.size w' v ps)
theorem items_slice {B : Nat} {w : World} {v : Value} {ps : List It} (h : ItemsFrom B w v ps) : ∃ ad n c, v = .slice ad n c := by
  obtain ⟨a, cap, rfl, -⟩ := h
  exact ⟨_, _, _, rfl⟩

theorem empty_list (l : List UInt8) : (T l).toList = l := by rw [Lib.toList_data]; rfl

set_option maxRecDepth 100000 in
set_option maxHeartbeats 1000000 in
theorem readParams_any (l : List UInt8) (g0 : Nat) (hg0 : l.length ≤ g0) (hl : g0 ≤ 1000000) (w : World) :
    Calls Tryd.prog 73 #[.string (T l)] w fun e w' => ParsOut (parsC g0 (skip l)) w e w' := by
  obtain ⟨res, hres⟩ : ∃ res, Hid (parsC g0 (skip l) = res) := ⟨_, rfl⟩
  rw [hres.out]
  obtain ⟨i0, hi, hz0, hz1, hz2⟩ := info_parts infoItem
  have TL := trimLeft_any
  have CP := cutParam_any
  go_enter Tryd.func73, Tryd.ntmps73
  go_wp2_with fail
  go_loopg [0, 2] g0 (fun g a t wr => ∃ (x : List UInt8) (acc : List It) (t0 : Value), t0 = t ∧ a = .string (T x) ∧ x.length ≤ g ∧ acc.length + g = g0 ∧ Hid (join acc (parsC g (skip x)) = res) ∧ Aside (wr.ownsRow w.heap.size 122 3 t acc.length (flat acc) ∧ Below w.heap.size w wr))
  case atStart =>
    refine ⟨l, [], _, rfl, rfl, hg0, by simp, ?_, World.ownsRow_nil w _ _ _, Below.refl _ _⟩
    show join [] _ = _
    rw [hres.out]
    cases res with
    | none => rfl
    | some ps => rfl
  case round =>
    clear hres
    obtain ⟨x, acc, t0, rfl, rfl, hx, hg, hd, hA⟩ := hrel
    have C1 := TL x
    have hsk := skip_le x
    have C2 := CP (skip x) (by omega)
    have hd := hd.out
    have lst := empty_list (skip x)
    clear TL CP
    by_cases h0 : skip x = []
    · rw [h0] at hd
      have V : Aside (res = some acc) := by
        show _ = _
        rw [← hd]
        have : parsC gk [] = some [] := by cases gk <;> rfl
        rw [this]
        show some (acc ++ []) = _
        rw [List.append_nil]
      have E : ((T (skip x)).toList == []) = true := by rw [lst, h0]; rfl
      have E2 : (T (skip x)).toList.isEmpty = true := by rw [lst, h0]; rfl
      clear hd C2 lst h0 hsk
      generalize T (skip x) = R at *
      go_wp2_with fail
      refine (C1 _).mono ?_; rintro e w1 ⟨rfl, hb⟩
      have O1 : Hid (w1.ownsRow w.heap.size 122 3 t0 acc.length (flat acc)) := own_below hA.out.1 hb
      have B1 : Hid (Below w.heap.size w w1) := hA.out.2.trans (hb.mono hA.out.2.size)
      clear hb
      go_wp2_with fail
      go_ret2
      have hI := own_from O1.out
      exact ⟨_, _, rfl, B1.out, items_slice hI, by rw [V.out]; exact ⟨rfl, hI⟩⟩
    · obtain ⟨g, hgk⟩ : ∃ g, gk = g + 1 := by
        refine ⟨gk - 1, ?_⟩
        have : (skip x).length ≠ 0 := fun q => h0 (List.length_eq_zero_iff.1 q)
        omega
      have E : ((T (skip x)).toList == []) = false := by rw [lst]; exact beq_eq_false_iff_ne.2 h0
      have E2 : (T (skip x)).toList.isEmpty = false := by
        rw [lst]
        cases hs : skip x with
        | nil => exact absurd hs h0
        | cons _ _ => rfl
      have hd2 : join acc (match parC (skip x) with | none => none | some (p, r) => match parsC g (skip r) with | none => none | some xs => some (p :: xs)) = res := by
        rw [hgk] at hd
        unfold parsC at hd
        rw [if_neg (by rw [← lst]; rw [E2]; decide)] at hd
        exact hd
      have LT := fun p r (h : parC (skip x) = some (p, r)) => parC_lt h
      have HLT := Lib.hid LT
      have HD2 := Lib.hid hd2
      have HGK := Lib.hid hgk
      clear hd hd2 lst h0 LT hgk
      have hlen : acc.length ≤ 1000000 := by omega
      generalize T (skip x) = R at *
      go_wp2_with fail
      refine (C1 _).mono ?_; rintro e w1 ⟨rfl, hb⟩
      have O1 : Hid (w1.ownsRow w.heap.size 122 3 t0 acc.length (flat acc)) := own_below hA.out.1 hb
      have B1 : Hid (Below w.heap.size w w1) := hA.out.2.trans (hb.mono hA.out.2.size)
      clear hb
      go_wp2_with fail
      refine (C2 _).mono ?_; rintro e w2 ⟨pa, pb, ph, r, ok, rfl, hb, hP⟩
      have O2 : Hid (w2.ownsRow w.heap.size 122 3 t0 acc.length (flat acc)) := own_below O1.out hb
      have B2 : Hid (Below w.heap.size w w2) := B1.out.trans (hb.mono B1.out.size)
      clear hb O1 B1
      have HP := Lib.hid hP
      clear hP
      cases ok with
      | false =>
        have V : Aside (res = none) := by
          show _ = _
          have hP := HP.out
          have hd := HD2.out
          cases hc : parC (skip x) with
          | none => rw [hc] at hd; exact hd.symm
          | some y =>
            obtain ⟨p, r'⟩ := y
            rw [hc] at hP
            cases hP.2.2.2.2
        clear HD2 HP
        go_wp2_with fail
        go_ret2
        exact ⟨_, _, rfl, B2.out.alloc B2.out.size _, ⟨_, _, _, rfl⟩, by rw [V.out]⟩
      | true =>
        obtain ⟨r', V⟩ : ∃ r', Hid (r = T r' ∧ r'.length ≤ g ∧ join (acc ++ [It.mk pa pb ph]) (parsC g (skip r')) = res) := by
          have hP := HP.out
          have hd := HD2.out
          have hl2 := HLT.out
          have hgk := HGK.out
          cases hc : parC (skip x) with
          | none => rw [hc] at hP; cases hP
          | some y =>
            obtain ⟨p, r'⟩ := y
            rw [hc] at hP hd
            have h9 := hl2 p r' hc
            obtain ⟨rfl, rfl, rfl, rfl, -⟩ := hP
            refine ⟨r', rfl, by omega, ?_⟩
            simp only at hd
            rw [← hd]
            cases parsC g (skip r') with
            | none => rfl
            | some xs => show some ((acc ++ [p]) ++ xs) = some (acc ++ p :: xs); rw [List.append_assoc]; rfl
        clear HD2 HP
        have O3 : Aside ((w2.alloc (.cells #[.string pa, .string pb, .bool ph] 122)).ownsRow w.heap.size 122 3 t0 acc.length (flat acc) ∧ Below w.heap.size w (w2.alloc (.cells #[.string pa, .string pb, .bool ph] 122))) := ⟨O2.out.alloc _, B2.out.alloc B2.out.size _⟩
        clear O2 B2
        go_wp2_with (at_builtin; refine push_item hi hz0 hz1 hz2 O3.out.1 _ _ _ hlen O3.out.2.size rfl _ _ rfl rfl _ rfl (by simp) ?_)
        intro v' w4 hp
        have N : Aside (w4.ownsRow w.heap.size 122 3 v' (acc ++ [It.mk pa pb ph]).length (flat (acc ++ [It.mk pa pb ph])) ∧ Below w.heap.size w w4) := ⟨hp.own, O3.out.2.trans hp.below⟩
        clear hp O3
        go_wp2_with fail
        go_roundg g
        case measure => have := HGK.out; omega
        case rel => exact ⟨r', acc ++ [It.mk pa pb ph], v', rfl, by rw [V.out.1], V.out.2.1, by rw [List.length_append]; have := HGK.out; show _ + 1 + g = _; omega, V.out.2.2, N.out⟩
end Go.Proofs.YtelofhplpeeplaaDoor.media
