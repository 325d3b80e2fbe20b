/- The document's own values: from which places does one of some patterns, and the rest behind it, stand for the text's rest? -/
import Derived.Test.YtoilalffhmjhdaaGreatDoorSmAmong
import Derived.Deep.RegionWith
set_option linter.unusedSimpArgs false
set_option linter.unusedVariables false
namespace Go.Proofs.YtoilalffhmjhdaaGreatDoor.subst
open Go.RowKit Go.Proofs.YtoilalffhmjhdaaGreatDoor.errs Go.Proofs.YtoilalffhmjhdaaGreatDoor.rows Go.Proofs.YtoilalffhmjhdaaGreatDoor.utf Go.Proofs.YtoilalffhmjhdaaGreatDoor.umath Go.Proofs.YtoilalffhmjhdaaGreatDoor.text Go.Proofs.YtoilalffhmjhdaaGreatDoor.ref Go.Proofs.YtoilalffhmjhdaaGreatDoor.glref Go.Proofs.YtoilalffhmjhdaaGreatDoor.gmath Go.Proofs.YtoilalffhmjhdaaGreatDoor.chars

def fitB (fold : Bool) (ls : List ByteArray) (X : List Int) (i k : Nat) : Bool := ls.any fun v => matchOf fold v (cutT X i k)
def hitB (fold : Bool) (ls : List ByteArray) (X : List Int) (E : Nat → Bool) (i k : Nat) : Bool := E k && fitB fold ls X i k
def restK (fold : Bool) (ls : List ByteArray) (X : List Int) (E : Nat → Bool) (i k : Nat) : Bool := (List.range (X.length + 1)).any fun k' => decide (k ≤ k') && hitB fold ls X E i k'
def valF (fold : Bool) (ls : List ByteArray) (X : List Int) (E : Nat → Bool) (i : Nat) : Bool := restK fold ls X E i i
theorem restK_iff {fold : Bool} {ls : List ByteArray} {X : List Int} {E : Nat → Bool} {i k : Nat} : restK fold ls X E i k = true ↔ ∃ k', k ≤ k' ∧ k' ≤ X.length ∧ hitB fold ls X E i k' = true := by
  unfold restK
  rw [List.any_eq_true]
  constructor
  · rintro ⟨k', h1, h2⟩
    rw [Bool.and_eq_true, decide_eq_true_eq] at h2
    have := List.mem_range.1 h1
    exact ⟨k', h2.1, by omega, h2.2⟩
  · rintro ⟨k', h1, h2, h3⟩
    exact ⟨k', List.mem_range.2 (by omega), by rw [Bool.and_eq_true, decide_eq_true_eq]; exact ⟨h1, h3⟩⟩
theorem restK_step {fold : Bool} {ls : List ByteArray} {X : List Int} {E : Nat → Bool} {i k : Nat} (h : k ≤ X.length) : restK fold ls X E i k = (hitB fold ls X E i k || restK fold ls X E i (k + 1)) := by
  rw [Bool.eq_iff_iff, Bool.or_eq_true, restK_iff, restK_iff]
  constructor
  · rintro ⟨k', h1, h2, h3⟩
    rcases (show k' = k ∨ k + 1 ≤ k' by omega) with rfl | q
    · exact .inl h3
    · exact .inr ⟨k', q, h2, h3⟩
  · rintro (q | ⟨k', h1, h2, h3⟩)
    · exact ⟨k, Nat.le_refl _, h, q⟩
    · exact ⟨k', by omega, h2, h3⟩
theorem restK_end {fold : Bool} {ls : List ByteArray} {X : List Int} {E : Nat → Bool} {i k : Nat} (h : X.length < k) : restK fold ls X E i k = false := by
  cases q : restK fold ls X E i k with
  | false => rfl
  | true =>
    obtain ⟨k', h1, h2, -⟩ := restK_iff.1 q
    omega
/-- The row, so far. -/
def rowG (V : Nat → Bool) (i : Nat) (q : Bool) (a : Nat) : Bool := if a < i then V a else (decide (a = i) && q)
theorem rowG_next (V : Nat → Bool) (i : Nat) (a : Nat) : rowG V i (V i) a = rowG V (i + 1) false a := by
  unfold rowG
  by_cases h : a < i
  · rw [if_pos h, if_pos (by omega)]
  · rw [if_neg h]
    by_cases e : a = i
    · subst e; rw [if_pos (by omega), decide_eq_true rfl, Bool.true_and]
    · rw [if_neg (by omega), decide_eq_false e, Bool.and_false, Bool.false_and]
theorem rowG_at (V : Nat → Bool) (i : Nat) (q : Bool) : rowG V i q i = q := by
  unfold rowG
  rw [if_neg (by omega), decide_eq_true rfl, Bool.true_and]
theorem rowG_set (V : Nat → Bool) (i : Nat) (q x : Bool) (a : Nat) : (if a = i then x else rowG V i q a) = rowG V i x a := by
  by_cases e : a = i
  · subst e; rw [if_pos rfl, rowG_at]
  · rw [if_neg e]
    unfold rowG
    rw [decide_eq_false e, Bool.false_and, Bool.false_and]
theorem cutT_size (X : List Int) (i k : Nat) (h : X.length ≤ 1000) : (cutT X i k).size ≤ 1000000 := by
  unfold cutT
  rw [frame.bytesOf_size]
  have := upto_length (piece X i k) (piece X i k).length
  have h2 : (piece X i k).length ≤ X.length := by unfold piece; rw [List.length_take, List.length_drop]; omega
  omega
def OutV (w : World) (n : Nat) (F : Nat → Bool) (wr : World) : Prop := Row wr w.heap.size n F ∧ Below w.heap.size w wr
theorem OutV.keeps {w wr wr' : World} {n : Nat} {F : Nat → Bool} (h : OutV w n F wr) (hb : Keeps wr wr') : OutV w n F wr' := ⟨h.1.below hb, h.2.trans (hb.mono h.2.size)⟩
theorem OutV.congr {w wr : World} {n : Nat} {F G : Nat → Bool} (h : OutV w n F wr) (e : ∀ a, F a = G a) : OutV w n G wr := ⟨h.1.congr fun k _ => e k, h.2⟩
theorem OutV.set {w wr : World} {n : Nat} {V : Nat → Bool} {i : Nat} {q : Bool} (h : OutV w n (rowG V i q) wr) (hi : i < n) (x : Bool) : OutV w n (rowG V i x) (wr.setCell ⟨w.heap.size, i, none⟩ (.bool x)) :=
  ⟨(h.1.set hi x).congr fun a _ => rowG_set V i q x a, h.2.setCell (p := ⟨w.heap.size, i, none⟩) (Nat.le_refl _) _⟩
theorem any_drop (f : ByteArray → Bool) (l : List ByteArray) (k : Nat) (h : k < l.length) : (l.drop k).any f = (f (l.getD k ⟨#[]⟩) || (l.drop (k + 1)).any f) := by rw [drop_val l k h, List.any_cons]

set_option maxRecDepth 100000 in
set_option maxHeartbeats 8000000 in
theorem rvalues_any (fold : Bool) (ls : List ByteArray) (lv : Value) (X : List Int) (cv : Value) (eb : Nat) (E : Nat → Bool) (w : World) (hl : StrsIn w lv ls) (hln : ls.length ≤ 1000) (hls : ∀ v ∈ ls, v.size ≤ 1000000) (hc : NumsF w cv X) (hX : X.length ≤ 1000) (hr : ∀ j, j < X.length → right (X.getD j 0) = true) (he : Row w eb (X.length + 1) E) :
    Calls Tryz.prog 63 #[lv, cv, .slice (some ⟨eb, 0, none⟩) (X.length + 1) (X.length + 1), .bool fold] w fun e w' => e = .returned (.slice (some ⟨w.heap.size, 0, none⟩) (X.length + 1) (X.length + 1)) ∧ OutV w (X.length + 1) (valF fold ls X E) w' := by
  obtain ⟨la, lc, rfl⟩ := hl.form
  have l1 := hl.at.2.1
  have l2 := hl.at.2.2.1
  obtain ⟨ca, cc, rfl, c1, c2⟩ := hc.form
  have HS := Lib.hid (⟨hl, hls, hc, hr, he⟩ : _ ∧ _ ∧ _ ∧ _ ∧ _)
  obtain ⟨V, hV⟩ : ∃ V, Hid (valF fold ls X E = V) := ⟨_, rfl⟩
  have VI : Hid (∀ i, V i = restK fold ls X E i i) := fun i => by rw [← hV.out]; rfl
  have ST : Hid (∀ i k, k ≤ X.length → restK fold ls X E i k = ((E k && fitB fold ls X i k) || restK fold ls X E i (k + 1))) := fun i k h => restK_step h
  have EN : Hid (∀ i k, X.length < k → restK fold ls X E i k = false) := fun i k h => restK_end h
  rw [hV.out]
  have CU : Hid (∀ i k V, Below w.heap.size w V → i ≤ k → k ≤ X.length → Calls Tryz.prog 81 #[.slice ca X.length cc, .int .i64 i, .int .i64 k] V fun e w' => e = .returned (.string (cutT X i k)) ∧ Below V.heap.size V w') := fun i k V hb h1 h2 => cut_any X _ i k V (hc.below hb) h1 h2 hr (by omega)
  have MA : Hid (∀ i k v V, v ∈ ls → Calls Tryz.prog 80 #[.string v, .string (cutT X i k), .bool fold] V fun e w' => e = .returned (.bool (matchOf fold v (cutT X i k))) ∧ Below V.heap.size V w') := fun i k v V hm => rmatch_any fold v _ (hls v hm) (cutT_size X i k hX) V
  have FI : Hid (∀ i k, fitB fold ls X i k = (ls.drop 0).any fun v => matchOf fold v (cutT X i k)) := fun i k => by rw [List.drop_zero]; rfl
  have AD : Hid (∀ i k j, j < ls.length → ((ls.drop j).any fun v => matchOf fold v (cutT X i k)) = (matchOf fold (ls.getD j ⟨#[]⟩) (cutT X i k) || (ls.drop (j + 1)).any fun v => matchOf fold v (cutT X i k))) := fun i k j h => any_drop _ ls j h
  have MB : Hid (∀ j, j < ls.length → ls.getD j ⟨#[]⟩ ∈ ls) := fun j h => by rw [List.getD_eq_getElem?_getD, List.getElem?_eq_getElem h]; exact List.getElem_mem _
  generalize restK fold ls X E = RK at *
  obtain ⟨n, hn⟩ : ∃ n, Hid (X.length = n) := ⟨_, rfl⟩
  rw [hn.out] at c1 hX ST EN CU HS ⊢
  obtain ⟨m, hm⟩ : ∃ m, Hid (ls.length = m) := ⟨_, rfl⟩
  rw [hm.out] at l1 hln AD MB HS ⊢
  have mk : ∀ W, (Instr.makeSlice 75 (.int .i64 ((n + 1 : Nat) : Int)) (.int .i64 ((n + 1 : Nat) : Int))).run Tryz.prog W = .ok (.slice (some ⟨W.heap.size, 0, none⟩) (n + 1) (n + 1)) (made W (n + 1)) := fun W => run_made (n + 1) (by omega) W
  have O0 : Hid (OutV w (n + 1) (rowG V 0 false) (made w (n + 1))) := ⟨(made_row w (n + 1)).congr fun k _ => by unfold rowG; rw [if_neg (by omega), Bool.and_false], made_below w (n + 1)⟩
  obtain ⟨N, hN⟩ : ∃ N, n + 1 = N := ⟨_, rfl⟩
  have HNn : Hid (n + 1 = N) := hN
  have hNb : N ≤ 1001 := by omega
  rw [hN] at mk O0 HS ⊢
  clear hl hls hc hr he hN
  go_enter Tryz.func63, Tryz.ntmps63
  go_wp2_with fail
  generalize made w N = W0 at *
  go_loopg [10] N (fun g t wr => ∃ i : Nat, t = .int .i64 i ∧ g + i = N ∧ Hid (OutV w N (rowG V i false) wr))
  case atStart => exact ⟨0, rfl, rfl, O0⟩
  case round =>
    clear O0 mk
    obtain ⟨i, rfl, hgi, hA⟩ := hrel
    have y0 : (0 : Int) ≤ (i : Int) := by omega
    by_cases hi : i < N
    · have y1 : (i : Int) < (N : Int) := by omega
      have M0 : Hid ((false || RK i i) = V i ∧ OutV w N (rowG V i false) wr) := ⟨by rw [Bool.false_or]; exact (VI.out i).symm, hA.out⟩
      clear hA
      go_wp2_with fail
      go_loopg [11] (N - i) (fun g t wr => ∃ (k : Nat) (q : Bool), t = .int .i64 k ∧ g + k = N ∧ i ≤ k ∧ Hid ((q || RK i k) = V i ∧ OutV w N (rowG V i q) wr))
      case atStart => exact ⟨i, false, rfl, by omega, Nat.le_refl _, M0⟩
      case round =>
        clear M0
        obtain ⟨k, q, rfl, hgk, hik, hB⟩ := hrel
        have v0 : (0 : Int) ≤ (k : Int) := by omega
        obtain ⟨o0, o1⟩ := hB.out.2.1 i hi
        rw [rowG_at] at o0
        by_cases hk : k < N
        · have v1 : (k : Int) < (N : Int) := by omega
          cases q with
          | true =>
            have VT : Hid (V i = true) := hB.out.1.symm
            have NX : Hid (OutV w N (rowG V (i + 1) false) wr) := hB.out.2.congr fun a => by rw [← rowG_next, VT.out]
            clear hB
            go_wp2_with fail
            go_roundg (N - (i + 1))
            case measure => omega
            case rel => exact ⟨i + 1, by go_num, by omega, NX⟩
          | false =>
            have kn : k ≤ n := by have := HNn.out; omega
            have I0 : Hid ((false || (E k && (ls.drop 0).any fun v => matchOf fold v (cutT X i k)) || RK i (k + 1)) = V i ∧ OutV w N (rowG V i false) wr) := by
              refine ⟨?_, hB.out.2⟩
              have := hB.out.1
              rw [Bool.false_or, ST.out i k kn, FI.out] at this
              rw [Bool.false_or]
              exact this
            clear hB
            go_wp2_with fail
            go_loopg [12] m (fun g t wr => ∃ (j : Nat) (q : Bool), t = .int .i64 j ∧ g + j = m ∧ Hid ((q || (E k && (ls.drop j).any fun v => matchOf fold v (cutT X i k)) || RK i (k + 1)) = V i ∧ OutV w N (rowG V i q) wr))
            case atStart => exact ⟨0, false, rfl, rfl, I0⟩
            case round =>
              clear I0 o0 o1
              obtain ⟨j, q, rfl, hgj, hC⟩ := hrel
              have u0 : (0 : Int) ≤ (j : Int) := by omega
              obtain ⟨o0, o1⟩ := hC.out.2.1 i hi
              rw [rowG_at] at o0
              obtain ⟨e0, -⟩ := (HS.out.2.2.2.2.below hC.out.2.2) k hk
              by_cases hj : j < m
              · have u1 : (j : Int) < (m : Int) := by omega
                obtain ⟨lb, lo, rfl, s0⟩ := (HS.out.1.below hC.out.2.2).at.2.2.2 j hj
                have AD1 := AD.out i k j hj
                have mem := MB.out j hj
                cases hE : E k with
                | false =>
                  rw [hE] at e0
                  have NX : Hid ((q || RK i (k + 1)) = V i ∧ OutV w N (rowG V i q) wr) := by
                    have := hC.out.1
                    rw [hE, Bool.false_and, Bool.or_false] at this
                    exact ⟨this, hC.out.2⟩
                  clear hC AD1 mem hE
                  go_wp2_with fail
                  go_roundg (N - (k + 1))
                  case measure => omega
                  case rel => exact ⟨k + 1, q, by go_num, by omega, by omega, NX⟩
                | true =>
                  rw [hE] at e0
                  cases q with
                  | true =>
                    have NX : Hid ((true || RK i (k + 1)) = V i ∧ OutV w N (rowG V i true) wr) := by
                      have := hC.out.1
                      rw [Bool.true_or, Bool.true_or] at this
                      exact ⟨this, hC.out.2⟩
                    clear hC AD1 mem hE
                    go_wp2_with fail
                    go_roundg (N - (k + 1))
                    case measure => omega
                    case rel => exact ⟨k + 1, true, by go_num, by omega, by omega, NX⟩
                  | false =>
                    have NQ : Hid ((matchOf fold (ls.getD j ⟨#[]⟩) (cutT X i k) || (E k && (ls.drop (j + 1)).any fun v => matchOf fold v (cutT X i k)) || RK i (k + 1)) = V i) := by
                      have := hC.out.1
                      rw [hE, Bool.true_and, Bool.false_or, AD1] at this
                      show _ = _
                      rw [hE, Bool.true_and]
                      exact this
                    have MA1 := fun V => MA.out i k _ V mem
                    have kn2 : k ≤ n := by have := HNn.out; omega
                    have CU1 := fun V (hb : Below w.heap.size w V) => CU.out i k V hb hik kn2
                    generalize ls.getD j ⟨#[]⟩ = s at *
                    have CL : Hid (∀ U, Keeps wr U → U.cell? ⟨lb, lo + j, none⟩ = some (.string s) ∧ Below w.heap.size w U ∧ OutV w N (rowG V i false) U) := fun U hU => ⟨(hU.cell (p := ⟨lb, lo + j, none⟩) (lt_of_cell s0)).trans s0, (hC.out.2.keeps hU).2, hC.out.2.keeps hU⟩
                    obtain ⟨q0, q1, -⟩ := CL.out wr.drew (Below.refl _ wr).drew
                    generalize matchOf fold s (cutT X i k) = mt at *
                    generalize cutT X i k = ct at *
                    clear AD1 mem hE hC
                    go_wp2_with fail
                    go_region_with (first
                      | (go_at_call 81; refine (CU1 _ q1).mono ?_; rintro e w6 ⟨rfl, hb6⟩; have K6 := Lib.hid (show Keeps wr w6 from (Below.refl _ wr).drew.trans hb6); obtain ⟨z0, -, -⟩ := CL.out w6 K6.out)
                      | (go_at_call 80; refine (MA1 _).mono ?_; rintro e w7 ⟨rfl, hb7⟩; have K7 := Lib.hid (show Keeps wr w7 from K6.out.trans (hb7.mono K6.out.size)); obtain ⟨x0, x1⟩ := (CL.out w7 K7.out).2.2.1 i hi))
                    all_goals
                      have NX : Hid ((mt || (E k && (ls.drop (j + 1)).any fun v => matchOf fold v ct) || RK i (k + 1)) = V i ∧ OutV w N (rowG V i mt) (w7.setCell ⟨w.heap.size, i, none⟩ (.bool mt))) := ⟨NQ.out, (CL.out w7 K7.out).2.2.set hi mt⟩
                      go_wp2_with fail
                      go_roundg (m - (j + 1))
                      case measure => omega
                      case rel => exact ⟨j + 1, mt, by go_num, by omega, NX⟩
              · obtain rfl : j = m := by omega
                have u1 : ¬ (j : Int) < (j : Int) := by omega
                have NX : Hid ((q || RK i (k + 1)) = V i ∧ OutV w N (rowG V i q) wr) := by
                  have := hC.out.1
                  rw [List.drop_eq_nil_of_le (by rw [hm.out]; exact Nat.le_refl _)] at this
                  simp only [List.any_nil, Bool.and_false, Bool.or_false] at this
                  exact ⟨this, hC.out.2⟩
                clear hC
                go_wp2_with fail
                go_roundg (N - (k + 1))
                case measure => omega
                case rel => exact ⟨k + 1, q, by go_num, by omega, by omega, NX⟩
        · obtain rfl : k = N := by omega
          have v1 : ¬ (k : Int) < (k : Int) := by omega
          have NX : Hid (OutV w k (rowG V (i + 1) false) wr) := by
            have e := hB.out.1
            rw [EN.out i k (by have := HNn.out; omega), Bool.or_false] at e
            exact hB.out.2.congr fun a => by rw [← rowG_next, e]
          clear hB
          go_wp2_with fail
          go_roundg (k - (i + 1))
          case measure => omega
          case rel => exact ⟨i + 1, by go_num, by omega, NX⟩
    · obtain rfl : i = N := by omega
      have y1 : ¬ (i : Int) < (i : Int) := by omega
      have OU : Hid (OutV w i V wr) := ⟨hA.out.1.congr fun k hk => by unfold rowG; rw [if_pos hk], hA.out.2⟩
      clear hA
      go_wp2_with fail
      go_ret
      exact ⟨rfl, OU.out⟩
end Go.Proofs.YtoilalffhmjhdaaGreatDoor.subst
