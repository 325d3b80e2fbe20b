/- The law on plain patterns: for any input it returns true. -/
import Derived.Test.YtafopoacnngaeaaDoorSbPlMath
set_option linter.unusedSimpArgs false
set_option linter.unusedVariables false
namespace Go.Proofs.YtafopoacnngaeaaDoor.substPlain
open Go.RowKit Go.Proofs.YtafopoacnngaeaaDoor.errs Go.Proofs.YtafopoacnngaeaaDoor.rows Go.Proofs.YtafopoacnngaeaaDoor.utf Go.Proofs.YtafopoacnngaeaaDoor.glref Go.Proofs.YtafopoacnngaeaaDoor.gmath Go.Proofs.YtafopoacnngaeaaDoor.chars Go.Proofs.YtafopoacnngaeaaDoor.subst

theorem plV_in (w W : World) (a : Option Addr) (n cap : Nat) (vs : List ByteArray) (b1 b2 b3 : Nat) (h : StrsIn W (.slice a n cap) vs)
    (h1 : W.heap[b1]? = some (.cells #[.string star] 9 (0, 0))) (h2 : W.heap[b2]? = some (.cells #[.string star] 9 (0, 0)))
    (h3 : W.heap[b3]? = some (.cells #[.string nX, .slice a n cap, .string nX, .slice (some ⟨b1, 0, none⟩) 1 1, .string nA, .slice (some ⟨b2, 0, none⟩) 1 1] 26 (0, 0))) :
    VarsIn W (.slice (some ⟨b3, 0, none⟩) 3 3) (plV vs) := by
  refine ⟨_, 3, rfl, Nat.le_refl _, by decide, fun _ => ⟨b3, 0, rfl, fun j hj => ?_⟩⟩
  have hj' : j < 3 := hj
  have one : ∀ b, W.heap[b]? = some (.cells #[.string star] 9 (0, 0)) → StrsIn W (.slice (some ⟨b, 0, none⟩) 1 1) [star] := fun b hb =>
    ⟨_, 1, rfl, Nat.le_refl _, by decide, fun _ => ⟨b, 0, rfl, fun i hi => by
      obtain rfl : i = 0 := by have : i < 1 := hi; omega
      exact cell_of_heap hb rfl⟩⟩
  rcases (show j = 0 ∨ j = 1 ∨ j = 2 by omega) with rfl | rfl | rfl
  · exact ⟨cell_of_heap h3 rfl, _, cell_of_heap h3 rfl, h⟩
  · exact ⟨cell_of_heap h3 rfl, _, cell_of_heap h3 rfl, one b1 h1⟩
  · exact ⟨cell_of_heap h3 rfl, _, cell_of_heap h3 rfl, one b2 h2⟩

set_option maxRecDepth 100000 in
set_option maxHeartbeats 8000000 in
theorem big (p s : ByteArray) (a : Option Addr) (n cap : Nat) (fold : Bool) (w : World) (hS : Seat w) (hb : 200 < p.size ∨ (p.size ≤ 200 ∧ 60 < s.size) ∨ (p.size ≤ 200 ∧ s.size ≤ 60 ∧ 8 < n)) :
    Calls Tryd.prog 3 #[.string p, .string s, .slice a n cap, .bool fold] w fun e w' => e = .returned (.bool true) ∧ Below w.heap.size w w' := by
  have S := speaks_any w hS
  clear hS
  rcases hb with h | ⟨h, h2⟩ | ⟨h, h2, h3⟩
  · have x1 : (200 : Int) < (p.size : Int) := by omega
    clear h
    go_enter Tryd.func3, Tryd.ntmps3
    go_wp2_with fail
    refine S.mono ?_; rintro e w1 ⟨rfl, hb1⟩
    have K1 := Lib.hid hb1
    clear hb1 S
    go_wp2_with fail
    go_ret
    exact ⟨rfl, K1.out⟩
  · have x1 : (p.size : Int) ≤ 200 := by omega
    have x2 : (60 : Int) < (s.size : Int) := by omega
    clear h h2
    go_enter Tryd.func3, Tryd.ntmps3
    go_wp2_with fail
    refine S.mono ?_; rintro e w1 ⟨rfl, hb1⟩
    have K1 := Lib.hid hb1
    clear hb1 S
    go_wp2_with fail
    go_ret
    exact ⟨rfl, K1.out⟩
  · have x1 : (p.size : Int) ≤ 200 := by omega
    have x2 : (s.size : Int) ≤ 60 := by omega
    have x3 : (8 : Int) < (n : Int) := by omega
    clear h h2 h3
    go_enter Tryd.func3, Tryd.ntmps3
    go_wp2_with fail
    refine S.mono ?_; rintro e w1 ⟨rfl, hb1⟩
    have K1 := Lib.hid hb1
    clear hb1 S
    go_wp2_with fail
    go_ret
    exact ⟨rfl, K1.out⟩

theorem or_byte : ∀ n : Fin 256, bits BinOp.or IntKind.u8 ((n.val : Nat) : Int) 32 = ((n.val ||| 32 : Nat) : Int) := by decide +kernel
theorem one_bits (s : ByteArray) (h : s.size = 1) (h0 : 0 < s.size) : oneOf s = (decide (97 ≤ bits BinOp.or IntKind.u8 (((s[0]'h0).toNat : Nat) : Int) 32) && decide (bits BinOp.or IntKind.u8 (((s[0]'h0).toNat : Nat) : Int) 32 ≤ 122)) := by
  have e : s.get! 0 = s[0]'h0 := getElem!_pos s.data 0 h0
  have b : bits BinOp.or IntKind.u8 (((s[0]'h0).toNat : Nat) : Int) 32 = (((s[0]'h0).toNat ||| 32 : Nat) : Int) := or_byte ⟨(s[0]'h0).toNat, (s[0]'h0).toNat_lt⟩
  rw [b]
  unfold oneOf
  rw [decide_eq_true h, Bool.true_and, e]
  congr 1
  · exact decide_eq_decide.2 (by omega)
  · exact decide_eq_decide.2 (by omega)
/-- No variable begins ahead of a place. -/
def Free (p : ByteArray) (i : Nat) : Prop := ∀ j, j < i → begin2 (p.data.toList.drop j) = false
theorem Free.next {p : ByteArray} {i : Nat} (h : Free p i) (hb : begin2 (p.data.toList.drop i) = false) : Free p (i + 1) := fun j hj => by
  rcases (show j < i ∨ j = i by omega) with q | rfl
  · exact h j q
  · exact hb
theorem begin_at {p : ByteArray} {i : Nat} (h : i + 1 < p.size) : begin2 (p.data.toList.drop i) = (p.get! i == 36 && p.get! (i + 1) == 40) := by rw [drop2 h]; rfl
theorem begin_end {p : ByteArray} {i : Nat} (h : ¬ i + 1 < p.size) : begin2 (p.data.toList.drop i) = false := by
  have hl : (p.data.toList.drop i).length ≤ 1 := by
    rw [List.length_drop, Array.length_toList]
    have : p.data.size = p.size := rfl
    omega
  match hd : p.data.toList.drop i, hl with
  | [], _ => rfl
  | [c], _ => rfl
  | a :: b :: r, hl => simp at hl
set_option maxRecDepth 100000 in
set_option maxHeartbeats 8000000 in
theorem main (p s : ByteArray) (a : Option Addr) (n cap : Nat) (vs : List ByteArray) (fold : Bool) (w : World) (hS : Seat w) (hv : StrsIn w (.slice a n cap) vs) (hp : p.size ≤ 200) (hs : s.size ≤ 60) (hn : n ≤ 8) :
    Calls Tryd.prog 3 #[.string p, .string s, .slice a n cap, .bool fold] w fun e w' => e = .returned (.bool true) ∧ Below w.heap.size w w' := by
  have S := speaks_any w hS
  have x1 : (p.size : Int) ≤ 200 := by omega
  have x2 : (s.size : Int) ≤ 60 := by omega
  have x3 : (n : Int) ≤ 8 := by omega
  obtain ⟨hnl, hnc, hcap, hcells⟩ := hv.at
  have HV := Lib.hid hv
  have HS := Lib.hid hS
  have HN := Lib.hid hnl
  have RM := Lib.hid fun (v : ByteArray) (h : v.size ≤ 1000000) (w' : World) => rmatch_any fold v s h (by omega) w'
  clear hv hS hnl hcells
  go_enter Tryd.func3, Tryd.ntmps3
  go_wp2_with fail
  refine S.mono ?_; rintro e w1 ⟨rfl, hb1⟩
  have K1 := Lib.hid hb1
  clear hb1 S
  go_wp2_with fail
  go_loopg [9, 32] n (fun g u t wr => ∃ (k : Nat) (q : Bool), u = .bool q ∧ t = .int .i64 k ∧ g + k = n ∧ Hid ((vs.take k).any (fun v => matchOf fold v s) = q ∧ (∀ v ∈ vs.take k, v.size ≤ 100) ∧ Below w.heap.size w wr))
  case atStart => exact ⟨0, false, rfl, rfl, rfl, rfl, (fun v hv => by cases hv), K1.out⟩
  case round =>
    clear K1
    obtain ⟨k, q, rfl, rfl, hg, hA⟩ := hrel
    have y0 : (0 : Int) ≤ (k : Int) := by omega
    by_cases hlt : k < n
    · have y1 : (k : Int) < (n : Int) := by omega
      obtain ⟨b, o, rfl, c0⟩ := (HV.out.below hA.out.2.2).at.2.2.2 k hlt
      have TK : Hid (vs.take (k + 1) = vs.take k ++ [vs.getD k ⟨#[]⟩]) := take_val vs k (by rw [← HN.out]; exact hlt)
      generalize vs.getD k ⟨#[]⟩ = v at *
      by_cases hvz : 100 < v.size
      · have z1 : (100 : Int) < (v.size : Int) := by omega
        clear hvz
        go_wp2_with fail
        go_ret
        exact ⟨rfl, hA.out.2.2⟩
      · have z1 : (v.size : Int) ≤ 100 := by omega
        have NX : Hid (∀ wr2 q2, Below w.heap.size w wr2 → q2 = (q || matchOf fold v s) → (vs.take (k + 1)).any (fun v => matchOf fold v s) = q2 ∧ (∀ v ∈ vs.take (k + 1), v.size ≤ 100) ∧ Below w.heap.size w wr2) := fun wr2 q2 hb hq => by
          refine ⟨?_, fun u hu => ?_, hb⟩
          · rw [TK.out, List.any_append, hA.out.1, hq]; simp
          · rw [TK.out] at hu
            rcases List.mem_append.1 hu with h | h
            · exact hA.out.2.1 u h
            · rw [List.mem_singleton.1 h]; omega
        have C := RM.out v (by omega) wr
        cases q with
        | true =>
          have NX2 := Lib.hid (NX.out wr true hA.out.2.2 rfl)
          clear hA hvz C
          go_wp2_with fail
          go_roundg (gk - 1)
          case measure => omega
          case rel => exact ⟨k + 1, true, rfl, by go_num, by omega, NX2⟩
        | false =>
          have WB : Hid (Below w.heap.size w wr) := hA.out.2.2
          obtain ⟨mo, hmo⟩ : ∃ mo, Hid (matchOf fold v s = mo) := ⟨_, rfl⟩
          rw [hmo.out] at C
          clear hA hvz
          go_wp2_with fail
          refine C.mono ?_; rintro e w2 ⟨rfl, hb⟩
          have NX2 := Lib.hid (NX.out w2 mo (WB.out.trans (hb.mono WB.out.size)) (by rw [hmo.out]; rfl))
          clear hb C
          go_wp2_with fail
          go_roundg (gk - 1)
          case measure => omega
          case rel => exact ⟨k + 1, mo, rfl, by go_num, by omega, NX2⟩
    · obtain rfl : k = n := by omega
      have y1 : ¬ (k : Int) < (k : Int) := by omega
      have HA : Hid (vs.any (fun v => matchOf fold v s) = q ∧ (∀ v ∈ vs, v.size ≤ 100) ∧ Below w.heap.size w wr) := by
        have := hA.out
        rwa [List.take_of_length_le (by rw [← HN.out]; exact Nat.le_refl _)] at this
      obtain ⟨V, hV⟩ : ∃ V, ((wr.alloc (.cells #[.string star] 9)).alloc (.cells #[.string star] 9)).alloc (.cells #[.string nX, .slice a k cap, .string nX, .slice (some ⟨wr.heap.size, 0, none⟩) 1 1, .string nA, .slice (some ⟨wr.heap.size + 1, 0, none⟩) 1 1] 26) = V := ⟨_, rfl⟩
      have VI : Hid (VarsIn V (.slice (some ⟨wr.heap.size + 1 + 1, 0, none⟩) 3 3) (plV vs) ∧ Below w.heap.size w V) := by
        have s1 : (wr.alloc (.cells #[.string star] 9)).heap.size = wr.heap.size + 1 := World.size_alloc _ _
        have s2 : ((wr.alloc (.cells #[.string star] 9)).alloc (.cells #[.string star] 9)).heap.size = wr.heap.size + 1 + 1 := by rw [World.size_alloc, s1]
        have kk : Keeps wr V := by rw [← hV]; exact (((Below.refl _ _).alloc (Nat.le_refl _) _).alloc (by rw [s1]; omega) _).alloc (by rw [s2]; omega) _
        have hb : Below w.heap.size w V := HA.out.2.2.trans (Below.mono kk HA.out.2.2.size)
        refine ⟨plV_in w V a k cap vs wr.heap.size (wr.heap.size + 1) (wr.heap.size + 1 + 1) (HV.out.below hb) ?_ ?_ ?_, hb⟩
        · rw [← hV, Below.heap_alloc _ _ _ (by rw [s2]; omega), Below.heap_alloc _ _ _ (by rw [s1]; omega)]; exact heap_alloc_new wr _
        · rw [← hV, Below.heap_alloc _ _ _ (by rw [s2]; omega)]
          have := heap_alloc_new (wr.alloc (.cells #[.string star] 9)) (.cells #[.string star] 9)
          rwa [s1] at this
        · rw [← hV]
          have := heap_alloc_new ((wr.alloc (.cells #[.string star] 9)).alloc (.cells #[.string star] 9)) (.cells #[.string nX, .slice a k cap, .string nX, .slice (some ⟨wr.heap.size, 0, none⟩) 1 1, .string nA, .slice (some ⟨wr.heap.size + 1, 0, none⟩) 1 1] 26)
          rwa [s2] at this
      have M : Hid (∀ (l : List UInt8) (w' : World), l.length ≤ 1000000 → Keeps V w' → Calls Tryd.prog 6 #[.string (T l), .slice (some ⟨wr.heap.size + 1 + 1, 0, none⟩) 3 3, .string s, .bool fold] w' fun e w'' => e = .returned (.bool (matchS fold l (plV vs) s)) ∧ Below w'.heap.size w' w'') := fun l w' hl hk => by
        have hk2 : Keeps w w' := VI.out.2.trans (Below.mono hk VI.out.2.size)
        have hS' := HS.out.below hk2
        refine match_any fold l (plV vs) _ s w' hl hS'.1 hS'.2.1 hS'.2.2 (VI.out.1.below hk) (by show 3 ≤ _; decide) (fun x hx => ?_) (by omega)
        have hvl : vs.length ≤ 1000000 := by rw [← HN.out]; omega
        have hst : ∀ u ∈ [star], u.size ≤ 1000000 := fun u hu => by rw [List.mem_singleton.1 hu]; decide
        unfold plV at hx
        rcases List.mem_cons.1 hx with rfl | hx
        · exact ⟨hvl, fun u hu => by have := HA.out.2.1 u hu; omega⟩
        · rcases List.mem_cons.1 hx with rfl | hx
          · exact ⟨by show 1 ≤ _; decide, hst⟩
          · rw [List.mem_singleton.1 hx]; exact ⟨by show 1 ≤ _; decide, hst⟩
      have M1 : Calls Tryd.prog 6 #[.string ⟨#[36, 40, 120, 41]⟩, .slice (some ⟨wr.heap.size + 1 + 1, 0, none⟩) 3 3, .string s, .bool fold] V fun e w'' => e = .returned (.bool q) ∧ Below V.heap.size V w'' := by
        have := M.out pX V (by decide) (Below.refl _ _)
        rw [plain_X, HA.out.1] at this
        exact this
      have HVV := Lib.hid hV
      clear hA hlt hg hV
      go_wp2_with fail
      rw [show (((wr.alloc (.cells #[.string ⟨#[42]⟩] 9)).alloc (.cells #[.string ⟨#[42]⟩] 9)).alloc (.cells #[.string ⟨#[120]⟩, .slice a k cap, .string ⟨#[120]⟩, .slice (some ⟨wr.heap.size, 0, none⟩) 1 1, .string ⟨#[97, 108, 112, 104, 97]⟩, .slice (some ⟨wr.heap.size + 1, 0, none⟩) 1 1] 26)) = V from HVV.out]
      refine M1.mono ?_; rintro e w2 ⟨rfl, hb⟩
      have K2 := Lib.hid hb
      have qq : (q != q) = false := by simp
      clear hb M1
      obtain ⟨one, hone⟩ : ∃ one, Hid (oneOf s = one) := ⟨_, rfl⟩
      have M2 : Calls Tryd.prog 6 #[.string ⟨#[36, 40, 97, 108, 112, 104, 97, 41]⟩, .slice (some ⟨wr.heap.size + 1 + 1, 0, none⟩) 3 3, .string s, .bool fold] w2 fun e w'' => e = .returned (.bool one) ∧ Below w2.heap.size w2 w'' := by
        have := M.out pA w2 (by decide) K2.out
        rw [plain_A, hone.out] at this
        exact this
      have oo : (one != one) = false := by simp
      generalize wr.heap.size = g0 at *
      have WAY : Hid (∀ (w3 : World) (i0 : Int), True) := fun _ _ => trivial
      have FIN := Lib.hid fun (w' : World) (hf : ∀ i, begin2 (p.data.toList.drop i) = false) (hk : Keeps V w') => (by
        have := M.out p.data.toList w' (by rw [Array.length_toList]; have : p.data.size = p.size := rfl; omega) hk
        rw [plain_P fold (plV vs) p s (by omega) hf] at this
        exact this : Calls Tryd.prog 6 #[.string p, .slice (some ⟨g0 + 1 + 1, 0, none⟩) 3 3, .string s, .bool fold] w' fun e w'' => e = .returned (.bool (matchOf fold p s)) ∧ Below w'.heap.size w' w'')
      have RF := Lib.hid fun (w' : World) => rmatch_any fold p s (by omega) (by omega) w'
      obtain ⟨mo, hmo⟩ : ∃ mo, Hid (matchOf fold p s = mo) := ⟨_, rfl⟩
      rw [hmo.out] at FIN RF
      have mm : (mo == mo) = true := by simp
      by_cases hs1 : s.size = 1
      · have z1 : ((s.size : Int) == 1) = true := by rw [beq_iff_eq]; omega
        have h0 : 0 < s.size := by omega
        have hone2 := (one_bits s hs1 h0).symm.trans hone.out
        by_cases hE1 : 97 ≤ bits BinOp.or IntKind.u8 (((s[0]'h0).toNat : Nat) : Int) 32
        · by_cases hE2 : bits BinOp.or IntKind.u8 (((s[0]'h0).toNat : Nat) : Int) 32 ≤ 122
          · rw [decide_eq_true hE1, decide_eq_true hE2] at hone2
            obtain rfl : true = one := hone2
            go_wp2_with fail
            refine M2.mono ?_; rintro e w3 ⟨rfl, hb⟩
            have K3 : Hid (Keeps V w3) := K2.out.trans (hb.mono K2.out.size)
            clear hb M2
            go_wp2_with fail
            go_loopg [14] p.size (fun g t wr => ∃ i : Nat, t = .int .i64 i ∧ g + i = p.size ∧ Hid (Free p i ∧ Keeps V wr))
            case atStart => exact ⟨0, rfl, Nat.add_zero _, (fun j hj => absurd hj (Nat.not_lt_zero _)), K3.out⟩
            case round =>
              clear K3
              obtain ⟨i, rfl, hgi, hF⟩ := hrel
              have w0 : (0 : Int) ≤ (i : Int) := by omega
              by_cases hlt : i + 1 < p.size
              · have w1 : (i : Int) + 1 < (p.size : Int) := by omega
                have w2' : (i : Int) < (p.size : Int) := by omega
                have w4 : (0 : Int) ≤ (i : Int) + 1 := by omega
                have ix := index_at p i (by omega)
                have ix2 := index_at p (i + 1) hlt
                rw [show ((i + 1 : Nat) : Int) = (i : Int) + 1 by omega] at ix2
                have hbg := begin_at hlt
                have b36 : (((p.get! i).toNat : Int) == 36) = (p.get! i == 36) := by
                  rw [Bool.eq_iff_iff, beq_iff_eq, beq_iff_eq]
                  exact ⟨fun h => UInt8.toNat_inj.1 (by show _ = 36; omega), fun h => by rw [h]; rfl⟩
                have b40 : (((p.get! (i + 1)).toNat : Int) == 40) = (p.get! (i + 1) == 40) := by
                  rw [Bool.eq_iff_iff, beq_iff_eq, beq_iff_eq]
                  exact ⟨fun h => UInt8.toNat_inj.1 (by show _ = 40; omega), fun h => by rw [h]; rfl⟩
                generalize (p.get! i == 36) = t1 at *
                generalize (p.get! (i + 1) == 40) = t2 at *
                generalize (p.get! i).toNat = a1 at *
                generalize (p.get! (i + 1)).toNat = a2 at *
                cases t1 with
                | false =>
                  have NX : Hid (Free p (i + 1)) := hF.out.1.next hbg
                  clear hbg
                  go_wp2_with fail
                  go_roundg (gk - 1)
                  case measure => omega
                  case rel => exact ⟨i + 1, by go_num, by omega, NX.out, hF.out.2⟩
                | true =>
                  cases t2 with
                  | false =>
                    have NX : Hid (Free p (i + 1)) := hF.out.1.next hbg
                    clear hbg
                    go_wp2_with fail
                    go_roundg (gk - 1)
                    case measure => omega
                    case rel => exact ⟨i + 1, by go_num, by omega, NX.out, hF.out.2⟩
                  | true =>
                    clear hbg
                    go_wp2_with fail
                    go_ret
                    exact ⟨rfl, VI.out.2.trans (Below.mono hF.out.2 VI.out.2.size)⟩
              · have w1 : ¬ (i : Int) + 1 < (p.size : Int) := by omega
                have w5 : (p.size : Int) ≤ (i : Int) + 1 := by omega
                have hf : ∀ j, begin2 (p.data.toList.drop j) = false := fun j => by
                  by_cases hj : j < i
                  · exact hF.out.1 j hj
                  · exact begin_end (by omega)
                have F1 := FIN.out wr hf hF.out.2
                clear hf hlt
                go_wp2_with fail
                refine F1.mono ?_; rintro e w4 ⟨rfl, hb⟩
                have K4 : Hid (Keeps V w4) := hF.out.2.trans (hb.mono hF.out.2.size)
                clear hb F1
                go_wp2_with fail
                refine (RF.out w4).mono ?_; rintro e w5 ⟨rfl, hb⟩
                have K5 : Hid (Keeps V w5) := K4.out.trans (hb.mono K4.out.size)
                clear hb
                go_wp2_with fail
                go_ret
                exact ⟨by simp, VI.out.2.trans (Below.mono K5.out VI.out.2.size)⟩
          · rw [decide_eq_true hE1, decide_eq_false hE2] at hone2
            obtain rfl : false = one := hone2
            go_wp2_with fail
            refine M2.mono ?_; rintro e w3 ⟨rfl, hb⟩
            have K3 : Hid (Keeps V w3) := K2.out.trans (hb.mono K2.out.size)
            clear hb M2
            go_wp2_with fail
            go_loopg [14] p.size (fun g t wr => ∃ i : Nat, t = .int .i64 i ∧ g + i = p.size ∧ Hid (Free p i ∧ Keeps V wr))
            case atStart => exact ⟨0, rfl, Nat.add_zero _, (fun j hj => absurd hj (Nat.not_lt_zero _)), K3.out⟩
            case round =>
              clear K3
              obtain ⟨i, rfl, hgi, hF⟩ := hrel
              have w0 : (0 : Int) ≤ (i : Int) := by omega
              by_cases hlt : i + 1 < p.size
              · have w1 : (i : Int) + 1 < (p.size : Int) := by omega
                have w2' : (i : Int) < (p.size : Int) := by omega
                have w4 : (0 : Int) ≤ (i : Int) + 1 := by omega
                have ix := index_at p i (by omega)
                have ix2 := index_at p (i + 1) hlt
                rw [show ((i + 1 : Nat) : Int) = (i : Int) + 1 by omega] at ix2
                have hbg := begin_at hlt
                have b36 : (((p.get! i).toNat : Int) == 36) = (p.get! i == 36) := by
                  rw [Bool.eq_iff_iff, beq_iff_eq, beq_iff_eq]
                  exact ⟨fun h => UInt8.toNat_inj.1 (by show _ = 36; omega), fun h => by rw [h]; rfl⟩
                have b40 : (((p.get! (i + 1)).toNat : Int) == 40) = (p.get! (i + 1) == 40) := by
                  rw [Bool.eq_iff_iff, beq_iff_eq, beq_iff_eq]
                  exact ⟨fun h => UInt8.toNat_inj.1 (by show _ = 40; omega), fun h => by rw [h]; rfl⟩
                generalize (p.get! i == 36) = t1 at *
                generalize (p.get! (i + 1) == 40) = t2 at *
                generalize (p.get! i).toNat = a1 at *
                generalize (p.get! (i + 1)).toNat = a2 at *
                cases t1 with
                | false =>
                  have NX : Hid (Free p (i + 1)) := hF.out.1.next hbg
                  clear hbg
                  go_wp2_with fail
                  go_roundg (gk - 1)
                  case measure => omega
                  case rel => exact ⟨i + 1, by go_num, by omega, NX.out, hF.out.2⟩
                | true =>
                  cases t2 with
                  | false =>
                    have NX : Hid (Free p (i + 1)) := hF.out.1.next hbg
                    clear hbg
                    go_wp2_with fail
                    go_roundg (gk - 1)
                    case measure => omega
                    case rel => exact ⟨i + 1, by go_num, by omega, NX.out, hF.out.2⟩
                  | true =>
                    clear hbg
                    go_wp2_with fail
                    go_ret
                    exact ⟨rfl, VI.out.2.trans (Below.mono hF.out.2 VI.out.2.size)⟩
              · have w1 : ¬ (i : Int) + 1 < (p.size : Int) := by omega
                have w5 : (p.size : Int) ≤ (i : Int) + 1 := by omega
                have hf : ∀ j, begin2 (p.data.toList.drop j) = false := fun j => by
                  by_cases hj : j < i
                  · exact hF.out.1 j hj
                  · exact begin_end (by omega)
                have F1 := FIN.out wr hf hF.out.2
                clear hf hlt
                go_wp2_with fail
                refine F1.mono ?_; rintro e w4 ⟨rfl, hb⟩
                have K4 : Hid (Keeps V w4) := hF.out.2.trans (hb.mono hF.out.2.size)
                clear hb F1
                go_wp2_with fail
                refine (RF.out w4).mono ?_; rintro e w5 ⟨rfl, hb⟩
                have K5 : Hid (Keeps V w5) := K4.out.trans (hb.mono K4.out.size)
                clear hb
                go_wp2_with fail
                go_ret
                exact ⟨by simp, VI.out.2.trans (Below.mono K5.out VI.out.2.size)⟩
        · rw [decide_eq_false hE1] at hone2
          obtain rfl : false = one := hone2
          go_wp2_with fail
          refine M2.mono ?_; rintro e w3 ⟨rfl, hb⟩
          have K3 : Hid (Keeps V w3) := K2.out.trans (hb.mono K2.out.size)
          clear hb M2
          go_wp2_with fail
          go_loopg [14] p.size (fun g t wr => ∃ i : Nat, t = .int .i64 i ∧ g + i = p.size ∧ Hid (Free p i ∧ Keeps V wr))
          case atStart => exact ⟨0, rfl, Nat.add_zero _, (fun j hj => absurd hj (Nat.not_lt_zero _)), K3.out⟩
          case round =>
            clear K3
            obtain ⟨i, rfl, hgi, hF⟩ := hrel
            have w0 : (0 : Int) ≤ (i : Int) := by omega
            by_cases hlt : i + 1 < p.size
            · have w1 : (i : Int) + 1 < (p.size : Int) := by omega
              have w2' : (i : Int) < (p.size : Int) := by omega
              have w4 : (0 : Int) ≤ (i : Int) + 1 := by omega
              have ix := index_at p i (by omega)
              have ix2 := index_at p (i + 1) hlt
              rw [show ((i + 1 : Nat) : Int) = (i : Int) + 1 by omega] at ix2
              have hbg := begin_at hlt
              have b36 : (((p.get! i).toNat : Int) == 36) = (p.get! i == 36) := by
                rw [Bool.eq_iff_iff, beq_iff_eq, beq_iff_eq]
                exact ⟨fun h => UInt8.toNat_inj.1 (by show _ = 36; omega), fun h => by rw [h]; rfl⟩
              have b40 : (((p.get! (i + 1)).toNat : Int) == 40) = (p.get! (i + 1) == 40) := by
                rw [Bool.eq_iff_iff, beq_iff_eq, beq_iff_eq]
                exact ⟨fun h => UInt8.toNat_inj.1 (by show _ = 40; omega), fun h => by rw [h]; rfl⟩
              generalize (p.get! i == 36) = t1 at *
              generalize (p.get! (i + 1) == 40) = t2 at *
              generalize (p.get! i).toNat = a1 at *
              generalize (p.get! (i + 1)).toNat = a2 at *
              cases t1 with
              | false =>
                have NX : Hid (Free p (i + 1)) := hF.out.1.next hbg
                clear hbg
                go_wp2_with fail
                go_roundg (gk - 1)
                case measure => omega
                case rel => exact ⟨i + 1, by go_num, by omega, NX.out, hF.out.2⟩
              | true =>
                cases t2 with
                | false =>
                  have NX : Hid (Free p (i + 1)) := hF.out.1.next hbg
                  clear hbg
                  go_wp2_with fail
                  go_roundg (gk - 1)
                  case measure => omega
                  case rel => exact ⟨i + 1, by go_num, by omega, NX.out, hF.out.2⟩
                | true =>
                  clear hbg
                  go_wp2_with fail
                  go_ret
                  exact ⟨rfl, VI.out.2.trans (Below.mono hF.out.2 VI.out.2.size)⟩
            · have w1 : ¬ (i : Int) + 1 < (p.size : Int) := by omega
              have w5 : (p.size : Int) ≤ (i : Int) + 1 := by omega
              have hf : ∀ j, begin2 (p.data.toList.drop j) = false := fun j => by
                by_cases hj : j < i
                · exact hF.out.1 j hj
                · exact begin_end (by omega)
              have F1 := FIN.out wr hf hF.out.2
              clear hf hlt
              go_wp2_with fail
              refine F1.mono ?_; rintro e w4 ⟨rfl, hb⟩
              have K4 : Hid (Keeps V w4) := hF.out.2.trans (hb.mono hF.out.2.size)
              clear hb F1
              go_wp2_with fail
              refine (RF.out w4).mono ?_; rintro e w5 ⟨rfl, hb⟩
              have K5 : Hid (Keeps V w5) := K4.out.trans (hb.mono K4.out.size)
              clear hb
              go_wp2_with fail
              go_ret
              exact ⟨by simp, VI.out.2.trans (Below.mono K5.out VI.out.2.size)⟩
      · have z1 : ((s.size : Int) == 1) = false := by rw [beq_eq_false_iff_ne]; omega
        have hone2 : one = false := by rw [← hone.out]; unfold oneOf; rw [decide_eq_false hs1, Bool.false_and]
        subst hone2
        go_wp2_with fail
        refine M2.mono ?_; rintro e w3 ⟨rfl, hb⟩
        have K3 : Hid (Keeps V w3) := K2.out.trans (hb.mono K2.out.size)
        clear hb M2
        go_wp2_with fail
        go_loopg [14] p.size (fun g t wr => ∃ i : Nat, t = .int .i64 i ∧ g + i = p.size ∧ Hid (Free p i ∧ Keeps V wr))
        case atStart => exact ⟨0, rfl, Nat.add_zero _, (fun j hj => absurd hj (Nat.not_lt_zero _)), K3.out⟩
        case round =>
          clear K3
          obtain ⟨i, rfl, hgi, hF⟩ := hrel
          have w0 : (0 : Int) ≤ (i : Int) := by omega
          by_cases hlt : i + 1 < p.size
          · have w1 : (i : Int) + 1 < (p.size : Int) := by omega
            have w2' : (i : Int) < (p.size : Int) := by omega
            have w4 : (0 : Int) ≤ (i : Int) + 1 := by omega
            have ix := index_at p i (by omega)
            have ix2 := index_at p (i + 1) hlt
            rw [show ((i + 1 : Nat) : Int) = (i : Int) + 1 by omega] at ix2
            have hbg := begin_at hlt
            have b36 : (((p.get! i).toNat : Int) == 36) = (p.get! i == 36) := by
              rw [Bool.eq_iff_iff, beq_iff_eq, beq_iff_eq]
              exact ⟨fun h => UInt8.toNat_inj.1 (by show _ = 36; omega), fun h => by rw [h]; rfl⟩
            have b40 : (((p.get! (i + 1)).toNat : Int) == 40) = (p.get! (i + 1) == 40) := by
              rw [Bool.eq_iff_iff, beq_iff_eq, beq_iff_eq]
              exact ⟨fun h => UInt8.toNat_inj.1 (by show _ = 40; omega), fun h => by rw [h]; rfl⟩
            generalize (p.get! i == 36) = t1 at *
            generalize (p.get! (i + 1) == 40) = t2 at *
            generalize (p.get! i).toNat = a1 at *
            generalize (p.get! (i + 1)).toNat = a2 at *
            cases t1 with
            | false =>
              have NX : Hid (Free p (i + 1)) := hF.out.1.next hbg
              clear hbg
              go_wp2_with fail
              go_roundg (gk - 1)
              case measure => omega
              case rel => exact ⟨i + 1, by go_num, by omega, NX.out, hF.out.2⟩
            | true =>
              cases t2 with
              | false =>
                have NX : Hid (Free p (i + 1)) := hF.out.1.next hbg
                clear hbg
                go_wp2_with fail
                go_roundg (gk - 1)
                case measure => omega
                case rel => exact ⟨i + 1, by go_num, by omega, NX.out, hF.out.2⟩
              | true =>
                clear hbg
                go_wp2_with fail
                go_ret
                exact ⟨rfl, VI.out.2.trans (Below.mono hF.out.2 VI.out.2.size)⟩
          · have w1 : ¬ (i : Int) + 1 < (p.size : Int) := by omega
            have w5 : (p.size : Int) ≤ (i : Int) + 1 := by omega
            have hf : ∀ j, begin2 (p.data.toList.drop j) = false := fun j => by
              by_cases hj : j < i
              · exact hF.out.1 j hj
              · exact begin_end (by omega)
            have F1 := FIN.out wr hf hF.out.2
            clear hf hlt
            go_wp2_with fail
            refine F1.mono ?_; rintro e w4 ⟨rfl, hb⟩
            have K4 : Hid (Keeps V w4) := hF.out.2.trans (hb.mono hF.out.2.size)
            clear hb F1
            go_wp2_with fail
            refine (RF.out w4).mono ?_; rintro e w5 ⟨rfl, hb⟩
            have K5 : Hid (Keeps V w5) := K4.out.trans (hb.mono K4.out.size)
            clear hb
            go_wp2_with fail
            go_ret
            exact ⟨by simp, VI.out.2.trans (Below.mono K5.out VI.out.2.size)⟩

theorem law (p s : ByteArray) (a : Option Addr) (n cap : Nat) (vs : List ByteArray) (fold : Bool) (w : World) (hS : Seat w) (hv : StrsIn w (.slice a n cap) vs) :
    Calls Tryd.prog 3 #[.string p, .string s, .slice a n cap, .bool fold] w fun e w' => e = .returned (.bool true) ∧ Below w.heap.size w w' := by
  by_cases h1 : 200 < p.size
  · exact big p s a n cap fold w hS (.inl h1)
  · by_cases h2 : 60 < s.size
    · exact big p s a n cap fold w hS (.inr (.inl ⟨by omega, h2⟩))
    · by_cases h3 : 8 < n
      · exact big p s a n cap fold w hS (.inr (.inr ⟨by omega, by omega, h3⟩))
      · exact main p s a n cap vs fold w hS hv (by omega) (by omega) (by omega)
end Go.Proofs.YtafopoacnngaeaaDoor.substPlain
