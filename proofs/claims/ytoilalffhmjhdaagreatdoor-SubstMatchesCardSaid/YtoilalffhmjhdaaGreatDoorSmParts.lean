/- The document's own next: where a variable begins from a place on, and where its name ends; its Find; are two lists of texts one? -/
import Derived.Test.YtoilalffhmjhdaaGreatDoorSbSpeaks
import Derived.BigQuiet
import Derived.Deep.QuietTactic
import Derived.Laws.DeepStrings4
set_option linter.unusedSimpArgs false
set_option linter.unusedVariables false
namespace Go.Proofs.YtoilalffhmjhdaaGreatDoor.subst
open Go.RowKit Go.Proofs.YtoilalffhmjhdaaGreatDoor.errs Go.Proofs.YtoilalffhmjhdaaGreatDoor.rows Go.Proofs.YtoilalffhmjhdaaGreatDoor.utf Go.Proofs.YtoilalffhmjhdaaGreatDoor.glref Go.Proofs.YtoilalffhmjhdaaGreatDoor.gmath Go.Proofs.YtoilalffhmjhdaaGreatDoor.chars

/-- Where the first variable begins, from a place on; where its name ends. -/
def nextI (L : List UInt8) (a : Nat) : Nat := a + leadN (L.drop a)
def nextJ (L : List UInt8) (i : Nat) : Nat := i + 2 + endN (L.drop (i + 2))
def nextK (L : List UInt8) (i : Nat) : Int := if nextJ L i < L.length then (nextJ L i : Int) else -1
def nextV (L : List UInt8) (a : Nat) : Int × Int := if nextI L a < L.length then ((nextI L a : Int), nextK L (nextI L a)) else (-1, -1)
theorem nextI_le (L : List UInt8) (a : Nat) (h : a ≤ L.length) : nextI L a ≤ L.length := by
  have := leadN_le (L.drop a)
  rw [List.length_drop] at this
  unfold nextI
  omega
theorem nextI_step {L : List UInt8} {i : Nat} (h : i < L.length) (hb : begin2 (L.drop i) = false) : nextI L i = nextI L (i + 1) := by
  unfold nextI
  rw [List.drop_eq_getElem_cons h] at hb ⊢
  show i + (if begin2 (L[i] :: L.drop (i + 1)) then 0 else leadN (L.drop (i + 1)) + 1) = i + 1 + leadN (L.drop (i + 1))
  rw [hb, if_neg (by decide)]
  omega
theorem nextI_hit {L : List UInt8} {i : Nat} (hb : begin2 (L.drop i) = true) : nextI L i = i := by
  unfold nextI
  cases hd : L.drop i with
  | nil => rw [hd] at hb; cases hb
  | cons c r => rw [hd] at hb; unfold leadN; rw [hb, if_pos rfl]; rfl
theorem begin_short {l : List UInt8} (h : l.length ≤ 1) : begin2 l = false := by
  match l, h with
  | [], _ => rfl
  | [c], _ => rfl
  | a :: b :: r, h => simp at h
theorem nextI_stop {L : List UInt8} {i : Nat} (h : i ≤ L.length) (h1 : L.length ≤ i + 1) : nextI L i = L.length := by
  rcases (show i = L.length ∨ i + 1 = L.length by omega) with h2 | h2
  · unfold nextI; rw [h2, List.drop_length]; rfl
  · rw [nextI_step (by omega) (begin_short (by rw [List.length_drop]; omega)), h2]
    unfold nextI; rw [List.drop_length]; rfl
theorem endN_step {L : List UInt8} {k : Nat} (h : k < L.length) (hc : L[k] ≠ 41) : k + endN (L.drop k) = k + 1 + endN (L.drop (k + 1)) := by
  rw [List.drop_eq_getElem_cons h]
  unfold endN
  rw [List.takeWhile_cons, if_pos (by simpa using hc), List.length_cons]
  omega
theorem endN_hit {L : List UInt8} {k : Nat} (h : k < L.length) (hc : L[k] = 41) : k + endN (L.drop k) = k := by
  rw [List.drop_eq_getElem_cons h]
  unfold endN
  rw [List.takeWhile_cons, if_neg (by simpa using hc)]
  rfl
theorem endN_stop {L : List UInt8} {k : Nat} (h : L.length ≤ k) : k + endN (L.drop k) = k := by rw [List.drop_eq_nil_of_le h]; rfl
theorem get_at {s : ByteArray} {k : Nat} (h : k < s.size) : s.get! k = s.data.toList[k]'(by rw [Array.length_toList]; exact h) := by
  have h2 : k < s.data.size := h
  show s.data[k]! = _
  rw [getElem!_pos s.data k h2, Array.getElem_toList]
theorem begin_get {p : ByteArray} {i : Nat} (h : i + 1 < p.size) : begin2 (p.data.toList.drop i) = (p.get! i == 36 && p.get! (i + 1) == 40) := by rw [drop2 h]; rfl
theorem byte_ne (x c : UInt8) : (((x.toNat : Int)) != (c.toNat : Int)) = !(x == c) := by
  rw [Bool.eq_iff_iff, bne_iff_ne, Bool.not_eq_true', beq_eq_false_iff_ne]
  exact ⟨fun h e => h (by rw [e]), fun h e => h (UInt8.toNat_inj.1 (by omega))⟩
theorem byte_eq (x c : UInt8) : (((x.toNat : Int)) == (c.toNat : Int)) = (x == c) := by
  rw [Bool.eq_iff_iff, beq_iff_eq, beq_iff_eq]
  exact ⟨fun e => UInt8.toNat_inj.1 (by omega), fun h => by rw [h]⟩

set_option maxRecDepth 100000 in
set_option maxHeartbeats 4000000 in
theorem rnext_any (s : ByteArray) (a : Nat) (ha : a ≤ s.size) (hs : s.size ≤ 1000000) (w : World) :
    Calls Tryz.prog 22 #[.string s, .int .i64 a] w fun e w' => e = .returned (.tuple #[.int .i64 (nextV s.data.toList a).1, .int .i64 (nextV s.data.toList a).2]) ∧ w' = w := by
  have hl : s.data.toList.length = s.size := Array.length_toList
  obtain ⟨I, hI⟩ : ∃ I, Hid (nextI s.data.toList a = I) := ⟨_, rfl⟩
  obtain ⟨r, hr⟩ : ∃ r, Hid (nextV s.data.toList a = r) := ⟨_, rfl⟩
  have HV : Hid (nextV s.data.toList a = if I < s.size then ((I : Int), nextK s.data.toList I) else (-1, -1)) := by
    show _ = _
    unfold nextV
    rw [hI.out, hl]
  have HV : Hid (r = if I < s.size then ((I : Int), nextK s.data.toList I) else (-1, -1)) := hr.out.symm.trans HV.out
  have HL := Lib.hid hl
  rw [hr.out]
  clear hl hr
  have A0 : (0 : Int) ≤ (a : Int) := by omega
  go_enter Tryz.func22, Tryz.ntmps22
  go_wp2_with fail
  go_loopg [6] (s.size - a) (fun g t wr => ∃ i : Nat, t = .int .i64 i ∧ a ≤ i ∧ i ≤ s.size ∧ s.size ≤ i + g ∧ Hid (nextI s.data.toList i = I) ∧ w = wr)
  case atStart => exact ⟨a, rfl, Nat.le_refl _, ha, by omega, hI, rfl⟩
  case round =>
    clear hI
    obtain ⟨i, rfl, hai, hil, hg, hA, rfl⟩ := hrel
    have w0 : (0 : Int) ≤ (i : Int) := by omega
    by_cases hlt : i + 1 < s.size
    · have w1 : (i : Int) + 1 < (s.size : Int) := by omega
      have w2' : (i : Int) < (s.size : Int) := by omega
      have w4 : (0 : Int) ≤ (i : Int) + 1 := by omega
      have ix := index_at s i (by omega)
      have ix2 := index_at s (i + 1) hlt
      rw [show ((i + 1 : Nat) : Int) = (i : Int) + 1 by omega] at ix2
      have hbg := begin_get hlt
      have b36 : (((s.get! i).toNat : Int) != 36) = !(s.get! i == 36) := byte_ne (s.get! i) 36
      have b40 : (((s.get! (i + 1)).toNat : Int) != 40) = !(s.get! (i + 1) == 40) := byte_ne (s.get! (i + 1)) 40
      generalize (s.get! i == 36) = t1 at *
      generalize (s.get! (i + 1) == 40) = t2 at *
      generalize (s.get! i).toNat = a1 at *
      generalize (s.get! (i + 1)).toNat = a2 at *
      cases t1 with
      | false =>
        have NX : Hid (nextI s.data.toList (i + 1) = I) := (nextI_step (by rw [HL.out]; omega) hbg).symm.trans hA.out
        clear hbg hA
        go_wp2_with fail
        go_roundg (gk - 1)
        case measure => omega
        case rel => exact ⟨i + 1, by go_num, by omega, by omega, by omega, NX, rfl⟩
      | true =>
        cases t2 with
        | false =>
          have NX : Hid (nextI s.data.toList (i + 1) = I) := (nextI_step (by rw [HL.out]; omega) hbg).symm.trans hA.out
          clear hbg hA
          go_wp2_with fail
          go_roundg (gk - 1)
          case measure => omega
          case rel => exact ⟨i + 1, by go_num, by omega, by omega, by omega, NX, rfl⟩
        | true =>
          have hi : i = I := (nextI_hit hbg).symm.trans hA.out
          subst hi
          have HV : Hid (r = ((i : Int), nextK s.data.toList i)) := by
            have := HV.out
            rwa [if_pos (show i < s.size by omega)] at this
          clear hbg hA
          have b41 := fun k => byte_eq (s.get! k) 41
          have B41 := Lib.hid b41
          clear b41
          go_wp2_with fail
          go_loopg [7] (s.size - (i + 2)) (fun g t wr2 => ∃ k : Nat, t = .int .i64 k ∧ i + 2 ≤ k ∧ k ≤ s.size ∧ s.size ≤ k + g ∧ Hid (k + endN (s.data.toList.drop k) = nextJ s.data.toList i) ∧ wr2 = w)
          case atStart => exact ⟨i + 2, by go_num, Nat.le_refl _, by omega, by omega, rfl, rfl⟩
          case round =>
            obtain ⟨k, rfl, hik, hkl, hgk, hB, rfl⟩ := hrel
            have v0 : (0 : Int) ≤ (k : Int) := by omega
            by_cases hk : k < s.size
            · have v1 : (k : Int) < (s.size : Int) := by omega
              have ix3 := index_at s k hk
              have be : (((s.get! k).toNat : Int) == 41) = (s.get! k == 41) := B41.out k
              have hgt := get_at hk
              by_cases hc : s.get! k = 41
              · rw [beq_iff_eq.2 hc] at be
                have HJ : Hid (r = ((i : Int), (k : Int))) := by
                  show _ = _
                  rw [HV.out]
                  unfold nextK
                  have := hB.out
                  rw [endN_hit (by rw [HL.out]; exact hk) (by rw [← hgt]; exact hc)] at this
                  rw [← this, if_pos (by rw [HL.out]; exact hk)]
                clear hc hgt hB
                generalize (s.get! k).toNat = a3 at *
                go_wp2_with fail
                go_ret2
                exact ⟨by rw [HJ.out]; rfl, rfl⟩
              · rw [beq_eq_false_iff_ne.2 hc] at be
                have NX : Hid (k + 1 + endN (s.data.toList.drop (k + 1)) = nextJ s.data.toList i) := (endN_step (by rw [HL.out]; exact hk) (by rw [← hgt]; exact hc)).symm.trans hB.out
                clear hc hgt hB
                generalize (s.get! k).toNat = a3 at *
                go_wp2_with fail
                go_roundg (gk - 1)
                case measure => omega
                case rel => exact ⟨k + 1, by go_num, by omega, by omega, by omega, NX, rfl⟩
            · have v1 : ¬ (k : Int) < (s.size : Int) := by omega
              have HJ : Hid (r = ((i : Int), -1)) := by
                show _ = _
                rw [HV.out]
                unfold nextK
                have := hB.out
                rw [endN_stop (by rw [HL.out]; omega)] at this
                rw [← this, if_neg (by rw [HL.out]; omega)]
              clear hB
              go_wp2_with fail
              go_ret2
              exact ⟨by rw [HJ.out]; rfl, rfl⟩
    · have w1 : ¬ (i : Int) + 1 < (s.size : Int) := by omega
      have HJ : Hid (r = (-1, -1)) := by
        show _ = _
        rw [HV.out]
        have := hA.out
        rw [nextI_stop (by rw [HL.out]; exact hil) (by rw [HL.out]; omega), HL.out] at this
        rw [if_neg (by omega)]
      clear hA
      go_wp2_with fail
      go_ret2
      exact ⟨by rw [HJ.out]; rfl, rfl⟩
end Go.Proofs.YtoilalffhmjhdaaGreatDoor.subst
/- The document's own Find; two slices that hold the same texts are one; the law's great. -/
set_option linter.unusedSimpArgs false
set_option linter.unusedVariables false
namespace Go.Proofs.YtoilalffhmjhdaaGreatDoor.subst
open Go.RowKit Go.Proofs.YtoilalffhmjhdaaGreatDoor.errs Go.Proofs.YtoilalffhmjhdaaGreatDoor.rows Go.Proofs.YtoilalffhmjhdaaGreatDoor.utf Go.Proofs.YtoilalffhmjhdaaGreatDoor.glref Go.Proofs.YtoilalffhmjhdaaGreatDoor.gmath Go.Proofs.YtoilalffhmjhdaaGreatDoor.chars

/-- What Find answers. -/
def FindOut (o : Option Vr) (w : World) (e : Ending) (w' : World) : Prop :=
  match o with
  | none => e = .returned (.tuple #[.slice none 0 0, .bool false]) ∧ w' = w
  | some x => ∃ sv, e = .returned (.tuple #[sv, .bool true]) ∧ Hid (StrsIn w sv x.vals) ∧ w' = w
set_option maxRecDepth 100000 in
set_option maxHeartbeats 1000000 in
theorem rfind_any (l : List Vr) (v : Value) (nm : ByteArray) (w : World) (h : VarsIn w v l) (hn : l.length ≤ 1000001) :
    Calls Tryz.prog 23 #[v, .string nm] w fun e w' => FindOut (findVr l nm) w e w' := by
  obtain ⟨a, cap, rfl⟩ := h.form
  have HV := Lib.hid h
  have h2 := h.at.2.1
  have h3 := h.at.2.2.1
  clear h
  obtain ⟨n, hln⟩ : ∃ n, Hid (l.length = n) := ⟨_, rfl⟩
  rw [hln.out] at hn h2 ⊢
  go_enter Tryz.func23, Tryz.ntmps23
  go_wp2_with fail
  go_loopg [6] n (fun g t wr => ∃ k : Nat, t = .int .i64 k ∧ g + k = n ∧ Hid (∀ j, j < k → isNamed nm (l.getD j noVr) = false) ∧ w = wr)
  case atStart => exact ⟨0, rfl, rfl, (fun j hj => absurd hj (Nat.not_lt_zero _)), rfl⟩
  case round =>
    obtain ⟨k, rfl, hg, hA, rfl⟩ := hrel
    by_cases hlt : k < n
    · have hV := HV.out
      rw [hln.out] at hV
      obtain ⟨bb, o, rfl, c0, sv, c1, c2⟩ := hV.at.2.2.2 k hlt
      have y0 : (0 : Int) ≤ (k : Int) := by omega
      have y1 : (k : Int) < (n : Int) := by omega
      have C2 := Lib.hid c2
      clear hV c2
      generalize hx : l.getD k noVr = x at *
      have HX := Lib.hid hx
      clear hx
      cases e : isNamed nm x with
      | true =>
        have e1 : (x.name.toList == nm.toList) = true := e
        have V : Hid (findVr l nm = some x) := by
          show _ = _
          rw [← HX.out]
          exact vr_from _ l k hA.out (by rw [hln.out]; exact hlt) (by rw [HX.out]; exact e)
        clear e hA
        go_wp2_with fail
        go_ret2
        rw [V.out]
        exact ⟨sv, rfl, C2, rfl⟩
      | false =>
        have e1 : (x.name.toList == nm.toList) = false := e
        have NX : Hid (∀ j, j < k + 1 → isNamed nm (l.getD j noVr) = false) := fun j hj => by
          rcases (show j < k ∨ j = k by omega) with h | rfl
          · exact hA.out j h
          · rw [HX.out]; exact e
        clear e hA C2
        go_wp2_with fail
        go_roundg (gk - 1)
        case measure => omega
        case rel => exact ⟨k + 1, by go_num, by omega, NX, rfl⟩
    · obtain rfl : k = n := by omega
      have y1 : ¬ (k : Int) < (k : Int) := by omega
      have V : Hid (findVr l nm = none) := vr_none _ l (fun j hj => hA.out j (by rw [hln.out] at hj; exact hj))
      clear hA
      go_wp2_with fail
      go_ret2
      rw [V.out]
      exact ⟨rfl, rfl⟩

set_option maxRecDepth 100000 in
set_option maxHeartbeats 1000000 in
theorem same_true {x y : Value} {l : List ByteArray} (w : World) (hx : StrsIn w x l) (hy : StrsIn w y l) (hl : l.length ≤ 1000000) :
    Calls Tryz.prog 11 #[x, y] w fun e w' => e = .returned (.bool true) ∧ Below w.heap.size w w' := by
  obtain ⟨a, c, rfl⟩ := hx.form
  obtain ⟨b, d, rfl⟩ := hy.form
  have HA := Lib.hid hx
  have HB := Lib.hid hy
  have a1 := hx.at.2.1
  have a2 := hx.at.2.2.1
  have b1 := hy.at.2.1
  have b2 := hy.at.2.2.1
  clear hx hy
  obtain ⟨n, hln⟩ : ∃ n, Hid (l.length = n) := ⟨_, rfl⟩
  rw [hln.out] at hl a1 b1 ⊢
  go_enter Tryz.func11, Tryz.ntmps11
  go_wp2_with fail
  go_loopg [5] n (fun g t wr => ∃ i : Nat, t = .int .i64 i ∧ g + i = n ∧ Hid (Below w.heap.size w wr))
  case atStart => exact ⟨0, rfl, rfl, Below.refl _ _⟩
  case round =>
    obtain ⟨i, rfl, hg, hb⟩ := hrel
    have x0 : (0 : Int) ≤ (i : Int) := by omega
    by_cases hlt : i < n
    · have x1 : (i : Int) < (n : Int) := by omega
      have hA := HA.out.below hb.out
      have hB := HB.out.below hb.out
      rw [hln.out] at hA hB
      obtain ⟨p, o, rfl, c1⟩ := hA.at.2.2.2 i hlt
      obtain ⟨q, r, rfl, c2⟩ := hB.at.2.2.2 i hlt
      clear hA hB
      generalize l.getD i ⟨#[]⟩ = z at *
      have ez : (z.toList == z.toList) = true := by simp
      go_wp2_with fail
      go_quiet (fail)
      go_wp2_with fail
      go_roundg (gk - 1)
      case measure => omega
      case rel => exact ⟨i + 1, by go_num, by omega, below_drewN hb.out nq⟩
    · obtain rfl : i = n := by omega
      have x1 : ¬ (i : Int) < (i : Int) := by omega
      go_wp2_with fail
      go_ret
      exact ⟨rfl, hb.out⟩

/-- Variables that the law looks at. -/
def Few (vs : List Vr) : Prop := vs.length ≤ 5 ∧ ∀ x ∈ vs, x.vals.length ≤ 4 ∧ x.name.size ≤ 100 ∧ ∀ s ∈ x.vals, s.size ≤ 20
def GreatOut (l : List Vr) (w : World) (e : Ending) (w' : World) : Prop := (e = .returned (.bool false) ∧ Hid (Few l ∧ Below w.heap.size w w')) ∨ (e = .returned (.bool true) ∧ Hid (Below w.heap.size w w'))
set_option maxRecDepth 100000 in
set_option maxHeartbeats 4000000 in
theorem great_any (l : List Vr) (v : Value) (w : World) (h : VarsIn w v l) :
    Calls Tryz.prog 6 #[v] w fun e w' => GreatOut l w e w' := by
  obtain ⟨a, cap, rfl⟩ := h.form
  have HV := Lib.hid h
  have h2 := h.at.2.1
  have h3 := h.at.2.2.1
  clear h
  obtain ⟨n, hln⟩ : ∃ n, Hid (l.length = n) := ⟨_, rfl⟩
  rw [hln.out] at h2 ⊢
  by_cases h5 : 5 < n
  · have z0 : (5 : Int) < (n : Int) := by omega
    clear h5
    go_enter Tryz.func6, Tryz.ntmps6
    go_wp2_with fail
    go_ret
    exact .inr ⟨rfl, Below.refl _ _⟩
  · have z0 : (n : Int) ≤ 5 := by omega
    have L5 : Hid (n ≤ 5) := Lib.hid (by omega)
    clear h5
    go_enter Tryz.func6, Tryz.ntmps6
    go_wp2_with fail
    go_loopg [12] n (fun g t wr => ∃ k : Nat, t = .int .i64 k ∧ g + k = n ∧ Hid ((∀ x ∈ l.take k, x.vals.length ≤ 4 ∧ x.name.size ≤ 100 ∧ ∀ s ∈ x.vals, s.size ≤ 20) ∧ Below w.heap.size w wr))
    case atStart => exact ⟨0, rfl, rfl, (fun x hx => by cases hx), Below.refl _ _⟩
    case round =>
      obtain ⟨k, rfl, hg, hA⟩ := hrel
      have y0 : (0 : Int) ≤ (k : Int) := by omega
      by_cases hlt : k < n
      · have hV := HV.out.below hA.out.2
        rw [hln.out] at hV
        obtain ⟨bb, o, rfl, c0, sv, c1, c2⟩ := hV.at.2.2.2 k hlt
        have y1 : (k : Int) < (n : Int) := by omega
        have TK : Hid (l.take (k + 1) = l.take k ++ [l.getD k noVr]) := by
          show _ = _
          rw [List.take_succ_eq_append_getElem (by rw [hln.out]; exact hlt), List.getD_eq_getElem?_getD, List.getElem?_eq_getElem (by rw [hln.out]; exact hlt)]; rfl
        clear hV
        generalize l.getD k noVr = x at *
        obtain ⟨sa, sc, rfl⟩ := c2.form
        have m2 := c2.at.2.1
        have m3 := c2.at.2.2.1
        have C2 := Lib.hid c2
        obtain ⟨m, hm⟩ : ∃ m, Hid (x.vals.length = m) := ⟨_, rfl⟩
        have X1 : Hid (x.name.size = x.name.size) := rfl
        clear c2
        rw [hm.out] at m2 c1
        obtain ⟨P, HP⟩ : ∃ P : World → Prop, Hid (P (wr.alloc (.cells #[.string x.name, .slice sa m sc] 36)) ∧ ∀ V, P V → Below w.heap.size w V ∧ StrsIn V (.slice sa m sc) x.vals) :=
          ⟨Keeps wr, (Below.refl _ _).alloc (Nat.le_refl _) _, fun V hV => ⟨hA.out.2.trans (hV.mono hA.out.2.size), by rw [← hm.out]; exact C2.out.below hV⟩⟩
        by_cases q1 : 4 < m
        · have z1 : (4 : Int) < (m : Int) := by omega
          clear q1
          go_wp2_with fail
          go_ret
          exact .inr ⟨rfl, (HP.out.2 _ HP.out.1).1⟩
        · have z1 : (m : Int) ≤ 4 := by omega
          by_cases q2 : 100 < x.name.size
          · have z2 : (100 : Int) < (x.name.size : Int) := by omega
            clear q1 q2
            go_wp2_with fail
            go_ret
            exact .inr ⟨rfl, (HP.out.2 _ HP.out.1).1⟩
          · have z2 : (x.name.size : Int) ≤ 100 := by omega
            have Q := Lib.hid (show m ≤ 4 ∧ x.name.size ≤ 100 by omega)
            clear q1 q2
            go_wp2_with fail
            go_loopg [29] m (fun g t wr2 => ∃ i : Nat, t = .int .i64 i ∧ g + i = m ∧ Hid ((∀ s ∈ x.vals.take i, s.size ≤ 20) ∧ P wr2))
            case atStart => exact ⟨0, rfl, rfl, (fun x hx => by cases hx), HP.out.1⟩
            case round =>
              clear c0 c1
              obtain ⟨i, rfl, hgi, hB⟩ := hrel
              have v0 : (0 : Int) ≤ (i : Int) := by omega
              by_cases hli : i < m
              · have v1 : (i : Int) < (m : Int) := by omega
                have hS := (HP.out.2 _ hB.out.2).2
                obtain ⟨p, po, rfl, s0⟩ := hS.at.2.2.2 i hli
                have TS : Hid (x.vals.take (i + 1) = x.vals.take i ++ [x.vals.getD i ⟨#[]⟩]) := take_val x.vals i (by rw [hm.out]; exact hli)
                clear hS
                generalize x.vals.getD i ⟨#[]⟩ = s at *
                have BR := Lib.hid (HP.out.2 _ hB.out.2).1
                by_cases q3 : 20 < s.size
                · have z3 : (20 : Int) < (s.size : Int) := by omega
                  clear q3
                  go_wp2_with fail
                  go_ret
                  exact .inr ⟨rfl, BR.out⟩
                · have z3 : (s.size : Int) ≤ 20 := by omega
                  have NX : Hid ((∀ s ∈ x.vals.take (i + 1), s.size ≤ 20) ∧ P wr) := by
                    refine ⟨fun u hu => ?_, hB.out.2⟩
                    rw [TS.out] at hu
                    rcases List.mem_append.1 hu with h | h
                    · exact hB.out.1 u h
                    · rw [List.mem_singleton.1 h]; omega
                  clear q3 hB
                  go_wp2_with fail
                  go_roundg (gk - 1)
                  case measure => omega
                  case rel => exact ⟨i + 1, by go_num, by omega, NX⟩
              · obtain rfl : i = m := by omega
                have v1 : ¬ (i : Int) < (i : Int) := by omega
                have NX : Hid ((∀ x ∈ l.take (k + 1), x.vals.length ≤ 4 ∧ x.name.size ≤ 100 ∧ ∀ s ∈ x.vals, s.size ≤ 20) ∧ Below w.heap.size w wr) := by
                  refine ⟨fun u hu => ?_, (HP.out.2 _ hB.out.2).1⟩
                  rw [TK.out] at hu
                  rcases List.mem_append.1 hu with h | h
                  · exact hA.out.1 u h
                  · rw [List.mem_singleton.1 h]
                    refine ⟨by rw [hm.out]; exact Q.out.1, Q.out.2, ?_⟩
                    have := hB.out.1
                    rwa [List.take_of_length_le (by rw [hm.out]; exact Nat.le_refl _)] at this
                clear hB hA
                go_wp2_with fail
                go_roundg (n - (k + 1))
                case measure => omega
                case rel => exact ⟨k + 1, by go_num, by omega, NX⟩
      · obtain rfl : k = n := by omega
        have y1 : ¬ (k : Int) < (k : Int) := by omega
        have NX : Hid (Few l ∧ Below w.heap.size w wr) := by
          have := hA.out
          rw [List.take_of_length_le (by rw [hln.out]; exact Nat.le_refl _)] at this
          exact ⟨⟨by rw [hln.out]; exact L5.out, this.1⟩, this.2⟩
        clear hA
        go_wp2_with fail
        go_ret
        exact .inl ⟨rfl, NX⟩
end Go.Proofs.YtoilalffhmjhdaaGreatDoor.subst
/- A pattern's parts, told by the document's next. -/
set_option linter.unusedSimpArgs false
set_option linter.unusedVariables false
namespace Go.Proofs.YtoilalffhmjhdaaGreatDoor.subst
open Go.RowKit Go.Proofs.YtoilalffhmjhdaaGreatDoor.errs Go.Proofs.YtoilalffhmjhdaaGreatDoor.rows Go.Proofs.YtoilalffhmjhdaaGreatDoor.utf Go.Proofs.YtoilalffhmjhdaaGreatDoor.glref Go.Proofs.YtoilalffhmjhdaaGreatDoor.gmath Go.Proofs.YtoilalffhmjhdaaGreatDoor.chars

theorem parts_fuel : ∀ (g g' i : Nat) (l : List UInt8), l.length ≤ g → l.length ≤ g' → partsF g i l = partsF g' i l
  | 0, g', i, l, h, _ => by
    have : l = [] := List.length_eq_zero_iff.1 (by omega)
    rw [this, parts_end, parts_end]
  | g + 1, g', i, l, h, h' => by
    by_cases hl : l = []
    · rw [hl, parts_end, parts_end]
    · have h0 : 0 < l.length := List.length_pos_iff.2 hl
      obtain ⟨g2, rfl⟩ : ∃ g2, g' = g2 + 1 := ⟨g' - 1, by omega⟩
      obtain ⟨p1, -, -⟩ := first_pos hl
      rw [parts_step g i hl, parts_step g2 i hl, parts_fuel g g2 _ _ (by rw [List.length_drop]; omega) (by rw [List.length_drop]; omega)]
/-- The parts from a place on. -/
def Pf (L : List UInt8) (a : Nat) : List (Nat × Pt) := partsF (L.length - a) a (L.drop a)
theorem Pf_all (L : List UInt8) : partsOf L = Pf L 0 := rfl
theorem Pf_end (L : List UInt8) : Pf L L.length = [] := by unfold Pf; rw [List.drop_length, parts_end]
theorem Pf_cons {L : List UInt8} {a : Nat} (h : a < L.length) : Pf L a = (a, firstP (L.drop a)) :: Pf L (a + (firstP (L.drop a)).text.length) := by
  have hl : L.drop a ≠ [] := by
    intro e
    have := congrArg List.length e
    rw [List.length_drop, List.length_nil] at this
    omega
  obtain ⟨p1, -, p3⟩ := first_pos hl
  rw [List.length_drop] at p3
  unfold Pf
  rw [show L.length - a = (L.length - a - 1) + 1 by omega, parts_step _ a hl, List.drop_drop]
  congr 1
  exact parts_fuel _ _ _ _ (by rw [List.length_drop]; omega) (by rw [List.length_drop]; omega)
/-- The name of a variable that begins at a place. -/
def nameAt (L : List UInt8) (i : Nat) : List UInt8 := (L.drop (i + 2)).take (endN (L.drop (i + 2)))
theorem begin_of_next {L : List UInt8} {i : Nat} (hi : i < L.length) (h : nextI L i = i) : begin2 (L.drop i) = true := by
  cases hb : begin2 (L.drop i) with
  | true => rfl
  | false =>
    have := nextI_step hi hb
    have h2 : i + 1 ≤ nextI L (i + 1) := Nat.le_add_right _ _
    omega
theorem nextI_again {L : List UInt8} {a : Nat} (h : nextI L a < L.length) : nextI L (nextI L a) = nextI L a := by
  have hd : ∀ l : List UInt8, leadN l < l.length → leadN (l.drop (leadN l)) = 0 := by
    intro l
    induction l with
    | nil => intro h; cases h
    | cons c r ih =>
      intro h
      cases hb : begin2 (c :: r) with
      | true =>
        have e : leadN (c :: r) = 0 := by unfold leadN; rw [hb, if_pos rfl]
        rw [e, List.drop_zero, e]
      | false =>
        have e : leadN (c :: r) = leadN r + 1 := by
          show (if begin2 (c :: r) then 0 else leadN r + 1) = _
          rw [hb, if_neg (by decide)]
        rw [e, List.drop_succ_cons]
        rw [e, List.length_cons] at h
        exact ih (by omega)
  unfold nextI at h ⊢
  have h2 := hd (L.drop a) (by rw [List.length_drop]; omega)
  rw [List.drop_drop] at h2
  rw [h2]
  rfl
/-- What stands ahead of the first variable. -/
def ahead (L : List UInt8) (a : Nat) : List (Nat × Pt) := if nextI L a = a then [] else [(a, ⟨0, (L.drop a).take (leadN (L.drop a)), []⟩)]
theorem Pf_ahead {L : List UInt8} {a : Nat} (h : a ≤ L.length) : Pf L a = ahead L a ++ Pf L (nextI L a) := by
  unfold ahead
  by_cases e : nextI L a = a
  · rw [if_pos e, e]; rfl
  · rw [if_neg e]
    have hlt : a < L.length := by
      rcases Nat.lt_or_ge a L.length with q | q
      · exact q
      · exact absurd (by rw [show a = L.length by omega]; unfold nextI; rw [List.drop_length]; rfl) e
    have hb : begin2 (L.drop a) = false := by
      cases hb : begin2 (L.drop a) with
      | false => rfl
      | true => exact absurd (nextI_hit hb) e
    rw [Pf_cons hlt]
    have hf : firstP (L.drop a) = ⟨0, (L.drop a).take (leadN (L.drop a)), []⟩ := by unfold firstP; rw [hb, if_neg (by decide)]
    rw [hf]
    show _ :: Pf L (a + ((L.drop a).take (leadN (L.drop a))).length) = _
    rw [List.length_take, Nat.min_eq_left (leadN_le _)]
    rfl
theorem endN_le (l : List UInt8) : endN l ≤ l.length := by unfold endN; exact (List.takeWhile_prefix _).length_le
/-- A variable that ends. -/
theorem Pf_var {L : List UInt8} {i : Nat} (hi : i < L.length) (h : nextI L i = i) (hj : nextJ L i < L.length) :
    Pf L i = (i, ⟨1, (L.drop i).take (endN (L.drop (i + 2)) + 3), nameAt L i⟩) :: Pf L (nextJ L i + 1) := by
  have hb := begin_of_next hi h
  unfold nextJ at hj ⊢
  rw [Pf_cons hi]
  have hf : firstP (L.drop i) = ⟨1, (L.drop i).take (endN (L.drop (i + 2)) + 3), nameAt L i⟩ := by
    unfold firstP nameAt
    rw [hb, if_pos rfl, List.drop_drop, if_pos (by rw [List.length_drop]; omega)]
  rw [hf]
  show _ :: Pf L (i + ((L.drop i).take (endN (L.drop (i + 2)) + 3)).length) = _
  rw [List.length_take, List.length_drop, Nat.min_eq_left (by omega), show i + (endN (L.drop (i + 2)) + 3) = i + 2 + endN (L.drop (i + 2)) + 1 by omega]
/-- One that doesn't. -/
theorem Pf_open {L : List UInt8} {i : Nat} (hi : i < L.length) (h : nextI L i = i) (hj : ¬ nextJ L i < L.length) : Pf L i = [(i, ⟨2, L.drop i, []⟩)] := by
  have hb := begin_of_next hi h
  unfold nextJ at hj
  have h2 := begin2_len hb
  rw [List.length_drop] at h2
  rw [Pf_cons hi]
  have hf : firstP (L.drop i) = ⟨2, L.drop i, []⟩ := by
    unfold firstP
    rw [hb, if_pos rfl, List.drop_drop, if_neg (by rw [List.length_drop]; omega)]
  rw [hf]
  show _ :: Pf L (i + (L.drop i).length) = _
  rw [List.length_drop, show i + (L.length - i) = L.length by omega, Pf_end]

theorem bad_cons_ok {kn : List UInt8 → Bool} {x : Nat × Pt} {r : List (Nat × Pt)} (h : partBad kn x = (0, 0)) : partsBad kn (x :: r) = partsBad kn r := by
  show (if (partBad kn x).1 = 0 then _ else _) = _
  rw [h, if_pos rfl]
theorem bad_cons_no {kn : List UInt8 → Bool} {x : Nat × Pt} {r : List (Nat × Pt)} (h : (partBad kn x).1 ≠ 0) : partsBad kn (x :: r) = partBad kn x := by
  show (if (partBad kn x).1 = 0 then _ else _) = _
  rw [if_neg h]
theorem bad_ahead (kn : List UInt8 → Bool) {L : List UInt8} {a : Nat} (h : a ≤ L.length) : partsBad kn (Pf L a) = partsBad kn (Pf L (nextI L a)) := by
  rw [Pf_ahead h]
  unfold ahead
  split
  · rfl
  · exact bad_cons_ok rfl
theorem bad_stop (kn : List UInt8 → Bool) {L : List UInt8} {a : Nat} (h : a ≤ L.length) (hn : ¬ nextI L a < L.length) : partsBad kn (Pf L a) = (0, 0) := by
  rw [bad_ahead kn h, show nextI L a = L.length by have := nextI_le L a h; omega, Pf_end]
  rfl
theorem bad_open (kn : List UInt8 → Bool) {L : List UInt8} {a : Nat} (h : a ≤ L.length) (hn : nextI L a < L.length) (hj : ¬ nextJ L (nextI L a) < L.length) : partsBad kn (Pf L a) = (10, (nextI L a : Int)) := by
  rw [bad_ahead kn h, Pf_open hn (nextI_again hn) hj]
  rfl
theorem bad_var (kn : List UInt8 → Bool) {L : List UInt8} {a : Nat} (h : a ≤ L.length) (hn : nextI L a < L.length) (hj : nextJ L (nextI L a) < L.length) :
    partsBad kn (Pf L a) = if kn (nameAt L (nextI L a)) then partsBad kn (Pf L (nextJ L (nextI L a) + 1)) else (30, (nextI L a : Int)) := by
  rw [bad_ahead kn h, Pf_var hn (nextI_again hn) hj]
  cases hk : kn (nameAt L (nextI L a)) with
  | true =>
    rw [if_pos rfl]
    refine bad_cons_ok ?_
    unfold partBad
    rw [if_neg (show ¬ (1 = 2) by decide), if_neg (fun q => by have := q.2; rw [hk] at this; cases this)]
  | false =>
    have e : partBad kn (nextI L a, ⟨1, (L.drop (nextI L a)).take (endN (L.drop (nextI L a + 2)) + 3), nameAt L (nextI L a)⟩) = (30, (nextI L a : Int)) := by
      unfold partBad
      rw [if_neg (show ¬ (1 = 2) by decide), if_pos ⟨rfl, hk⟩]
    rw [bad_cons_no (by rw [e]; show (30 : Int) ≠ 0; decide), e, if_neg (by decide)]

/-- The names of all variables. -/
def namesOf (ps : List (Nat × Pt)) : List ByteArray := (ps.filter fun x => x.2.kind == 1).map fun x => T x.2.name
theorem names_ahead {L : List UInt8} {a : Nat} (h : a ≤ L.length) : namesOf (Pf L a) = namesOf (Pf L (nextI L a)) := by
  rw [Pf_ahead h]
  unfold ahead
  split
  · rfl
  · rfl
theorem names_stop {L : List UInt8} {a : Nat} (h : a ≤ L.length) (hn : ¬ nextI L a < L.length) : namesOf (Pf L a) = [] := by
  rw [names_ahead h, show nextI L a = L.length by have := nextI_le L a h; omega, Pf_end]
  rfl
theorem names_open {L : List UInt8} {a : Nat} (h : a ≤ L.length) (hn : nextI L a < L.length) (hj : ¬ nextJ L (nextI L a) < L.length) : namesOf (Pf L a) = [] := by
  rw [names_ahead h, Pf_open hn (nextI_again hn) hj]
  rfl
theorem names_var {L : List UInt8} {a : Nat} (h : a ≤ L.length) (hn : nextI L a < L.length) (hj : nextJ L (nextI L a) < L.length) :
    namesOf (Pf L a) = T (nameAt L (nextI L a)) :: namesOf (Pf L (nextJ L (nextI L a) + 1)) := by
  rw [names_ahead h, Pf_var hn (nextI_again hn) hj]
  rfl
/-- The name, cut out of the pattern. -/
theorem cut_name (s : ByteArray) (i : Nat) (hj : nextJ s.data.toList i < s.data.toList.length) (hi : i + 2 ≤ s.size) : ∀ w, (Instr.slice 9 (.string s) (some (.int .i64 ((i : Int) + 2))) (some (.int .i64 (nextJ s.data.toList i : Nat))) none).run Tryz.prog w = .ok (.string (T (nameAt s.data.toList i))) w := fun w => by
  have hl : s.data.toList.length = s.size := Array.length_toList
  have q : i + 2 ≤ nextJ s.data.toList i := Nat.le_add_right _ _
  have e1 : ((i : Int) + 2).toNat = i + 2 := by omega
  have e2 : ((nextJ s.data.toList i : Nat) : Int).toNat = nextJ s.data.toList i := by omega
  rw [run_slice_string_if (h := Tryz.underlying9), if_pos (by omega), if_pos (by omega), e1, e2]
  have e3 : (s.extract (i + 2) (nextJ s.data.toList i)).data.toList = nameAt s.data.toList i := by
    rw [ByteArray.data_extract, Array.toList_extract, List.extract_eq_take_drop]
    unfold nameAt nextJ
    rw [Nat.add_sub_cancel_left]
  rw [← e3]
  rfl
theorem nextV_none {L : List UInt8} {a : Nat} (h : ¬ nextI L a < L.length) : nextV L a = (-1, -1) := by unfold nextV; rw [if_neg h]
theorem nextV_open {L : List UInt8} {a : Nat} (h : nextI L a < L.length) (hj : ¬ nextJ L (nextI L a) < L.length) : nextV L a = ((nextI L a : Int), -1) := by unfold nextV nextK; rw [if_pos h, if_neg hj]
theorem nextV_var {L : List UInt8} {a : Nat} (h : nextI L a < L.length) (hj : nextJ L (nextI L a) < L.length) : nextV L a = ((nextI L a : Int), (nextJ L (nextI L a) : Int)) := by unfold nextV nextK; rw [if_pos h, if_pos hj]
end Go.Proofs.YtoilalffhmjhdaaGreatDoor.subst
