/- strings.IndexAny at the two signs; glob.Lead; glob.Least. -/
import Derived.Test.YtjijdaheabgphaaDoorGpLead
set_option linter.unusedSimpArgs false
set_option linter.unusedVariables false
namespace Go.Proofs.YtjijdaheabgphaaDoor.gparts
open Go.RowKit Go.Proofs.YtjijdaheabgphaaDoor.errs Go.Proofs.YtjijdaheabgphaaDoor.rows Go.Proofs.YtjijdaheabgphaaDoor.utf Go.Proofs.YtjijdaheabgphaaDoor.chars Go.Proofs.YtjijdaheabgphaaDoor.gmath Go.Proofs.YtjijdaheabgphaaDoor.glref Go.Proofs.YtjijdaheabgphaaDoor.lower

/-- What IndexAny answers. -/
def idxOf (s : ByteArray) (n : Nat) : Int := if n < s.size then n else -1
def isSign (b : UInt8) : Bool := signs.data.toList.contains b
theorem isSign_iff (b : UInt8) : isSign b = decide (b.toNat = 42 ∨ b.toNat = 63) := by
  have e : isSign b = (b == 42 || b == 63) := by
    unfold isSign signs
    simp [List.contains_cons]
    rfl
  rw [e, Bool.eq_iff_iff, Bool.or_eq_true, beq_iff_eq, beq_iff_eq, decide_eq_true_eq, ← UInt8.toNat_inj, ← UInt8.toNat_inj]
  exact Iff.rfl
theorem sign_at (s : ByteArray) (i : Nat) (h : i < s.size) : sign s i = isSign (s.data.toList[i]'(by rw [Array.length_toList]; exact h)) := by
  rw [isSign_iff]
  unfold sign
  show decide ((s.data[i]!).toNat = 42 ∨ (s.data[i]!).toNat = 63) = _
  rw [getElem!_pos s.data i h]
  rfl
theorem indexAny_spec : ∀ (l : List UInt8) (n : Nat), n ≤ l.length → (∀ j (h : j < l.length), j < n → isSign l[j] = false) → (∀ (h : n < l.length), isSign l[n] = true) → Lib.indexAny l signs.data.toList = if n < l.length then (n : Int) else -1
  | [], n, h, _, _ => by
    rw [if_neg (by simp)]
    rfl
  | b :: l, 0, _, _, h2 => by
    have this : signs.data.toList.contains b = true := h2 (by simp)
    rw [if_pos (by simp)]
    unfold Lib.indexAny
    rw [if_pos this]
    rfl
  | b :: l, n + 1, h, h1, h2 => by
    have hb : isSign b = false := h1 0 (by simp) (by omega)
    have ih := indexAny_spec l n (by simpa using h) (fun j hj hn => by have := h1 (j + 1) (by simpa using hj) (by omega); simpa using this) (fun hn => by have := h2 (by simpa using hn); simpa using this)
    unfold Lib.indexAny
    rw [if_neg (by show ¬ isSign b = true; rw [hb]; decide), ih]
    by_cases hn : n < l.length
    · rw [if_pos hn, if_neg (show ¬ (((n : Int) == -1) = true) by rw [beq_iff_eq]; omega), if_pos (show n + 1 < (b :: l).length by simpa using hn)]
      rfl
    · rw [if_neg hn, if_neg (show ¬ n + 1 < (b :: l).length by simpa using hn)]
      rfl
theorem indexAny_lead {s : ByteArray} {n : Nat} (h : LeadIs s n) : Lib.indexAny s.data.toList signs.data.toList = idxOf s n := by
  have hl : s.data.toList.length = s.size := Array.length_toList
  rw [indexAny_spec s.data.toList n (by rw [hl]; exact h.le) (fun j hj hn => by rw [← sign_at s j (by omega)]; exact h.free j hn) (fun hn => by rw [← sign_at s n (by omega)]; exact h.hit (by omega))]
  unfold idxOf
  rw [hl]

theorem indexRune_one (r : Int) (w : World) (h : r = 42 ∨ r = 63) :
    Calls Tryd.prog 47 #[.string signs, .int .i32 r] w fun e w' => ∃ i : Int, e = .returned (.int .i64 i) ∧ 0 ≤ i ∧ Below w.heap.size w w' := by
  rcases h with rfl | rfl
  · exact (Tryd.strings_IndexRune_ascii signs 42 w (by decide) (by decide)).mono fun e w' ⟨h1, h2⟩ => ⟨0, h1, by decide, h2 ▸ Below.refl _ _⟩
  · exact (Tryd.strings_IndexRune_ascii signs 63 w (by decide) (by decide)).mono fun e w' ⟨h1, h2⟩ => ⟨1, h1, by decide, h2 ▸ Below.refl _ _⟩
theorem indexByte_none (c : UInt8) (h : isSign c = false) : Lib.indexByte signs.data.toList c = -1 := by
  have h0 : (42 : UInt8) ≠ c := fun e => by rw [← e] at h; revert h; decide
  have h1 : (63 : UInt8) ≠ c := fun e => by rw [← e] at h; revert h; decide
  simp [signs, Lib.indexByte, h0, h1, Ne.symm h0, Ne.symm h1]
theorem indexRune_none (r : Int) (w : World) (h0 : 0 ≤ r) (h1 : r ≠ 42) (h2 : r ≠ 63) :
    Calls Tryd.prog 47 #[.string signs, .int .i32 r] w fun e w' => ∃ i : Int, e = .returned (.int .i64 i) ∧ i < 0 ∧ Below w.heap.size w w' := by
  by_cases h : r < 128
  · refine (Tryd.strings_IndexRune_ascii signs r w h0 h).mono fun e w' ⟨e1, e2⟩ => ⟨-1, ?_, by decide, e2 ▸ Below.refl _ _⟩
    rw [e1, indexByte_none _ (by
      rw [isSign_iff]
      refine decide_eq_false ?_
      have : (r.toNat.toUInt8).toNat = r.toNat := by
        show (UInt8.ofNat r.toNat).toNat = _
        rw [UInt8.toNat_ofNat']
        omega
      rw [this]
      omega)]
  · exact (indexRune_no r (by omega) w).mono fun e w' ⟨e1, e2⟩ => ⟨-1, e1, by decide, e2⟩

set_option maxRecDepth 100000 in
set_option maxHeartbeats 4000000 in
theorem indexAny_short (s : ByteArray) (n : Nat) (hL : LeadIs s n) (h8 : s.size ≤ 8) (w : World) :
    Calls Tryd.prog 34 #[.string s, .string signs] w fun e w' => e = .returned (.int .i64 (idxOf s n)) ∧ Below w.heap.size w w' := by
  have SU : ∀ w, Calls Tryd.prog 48 #[.int .i64 s.size] w fun e w' => e = .returned (.bool false) ∧ w' = w := fun w => by
    have := Tryd.strings_shouldUseASCIISet s.size w
    rwa [decide_eq_false (by omega)] at this
  obtain ⟨m, hm⟩ : ∃ m, Hid (s.size = m) := ⟨_, rfl⟩
  rw [hm.out] at h8 SU
  have nb : signs.toList.isEmpty = false := by kernel_rfl
  have n1 : ((signs.size : Int) == 1) = false := by kernel_rfl
  have HS := Lib.hid hm.out
  have hm' := hm.out
  obtain ⟨res, hres⟩ : ∃ res, Hid (idxOf s n = res) := ⟨_, rfl⟩
  rw [hres.out]
  go_enter Tryd.func34, Tryd.ntmps34
  go_wp2_with fail
  refine (SU _).mono ?_; rintro e w1 ⟨rfl, rfl⟩
  clear hm' nb n1
  go_wp2_with fail
  have hit0 : Aside (Itr (w1.iter s 0) w1.heap.size s 0) := World.iter_heap w1 s 0
  have hbw : Aside (Below w1.heap.size w1 (w1.iter s 0)) := (Below.refl _ _).alloc (Nat.le_refl _) _
  generalize w1.iter s 0 = w2 at *
  generalize hkk : w1.heap.size = k0 at *
  have HKK := Lib.hid hkk
  clear hkk
  go_loopg [] m (fun g wr => ∃ pos : Nat, pos ≤ m ∧ m ≤ pos + g ∧ pos ≤ n ∧ Aside (Itr wr k0 s pos ∧ Below k0 w1 wr))
  case atStart => exact ⟨0, by omega, by omega, by omega, hit0.out, hbw.out⟩
  case round =>
    clear hit0 hbw
    obtain ⟨pos, hp, hg, hpn, hA⟩ := hrel
    by_cases hlt : pos < m
    · obtain ⟨g, rfl⟩ : ∃ g, gk = g + 1 := ⟨gk - 1, by omega⟩
      have hps : pos < s.size := by rw [hm.out]; exact hlt
      have hnx := fun ty => Lib.run_next_any_at (P := Tryd.prog) wr k0 s pos ty hA.out.1 hps
      have hfit := decode_fits s pos hps
      obtain ⟨-, b2, b3⟩ := decode_bounds s pos
      have NX : Aside (Itr (wr.iterAt k0 s (pos + (Utf8.decode s pos).2)) k0 s (pos + (Utf8.decode s pos).2) ∧ Below k0 w1 (wr.iterAt k0 s (pos + (Utf8.decode s pos).2))) := ⟨hA.out.1.at _, Lib.below_iterAt hA.out.2 (Nat.le_refl _) s _⟩
      have SC := sign_char s pos
      cases hs : sign s pos with
      | true =>
        have hn := hL.at hpn hs
        subst hn
        have V : Aside (res = n) := by
          show res = _
          rw [← hres.out]
          unfold idxOf
          rw [if_pos hps]
        have hc : (Utf8.decode s n).1 = 42 ∨ (Utf8.decode s n).1 = 63 := of_decide_eq_true (SC.symm.trans hs)
        have C := fun w => indexRune_one (Utf8.decode s n).1 w (by omega)
        clear SC hs hc hps hfit
        generalize ((Utf8.decode s n).1 : Int) = c at *
        generalize wr.iterAt k0 s (n + (Utf8.decode s n).2) = W at *
        go_wp2_with fail
        refine (C _).mono ?_; rintro e w3 ⟨i, rfl, h0, h3⟩
        have K3 : Aside (Below k0 w1 w3) := NX.out.2.trans (h3.mono (by have := NX.out.2.size; have := HKK.out; omega))
        clear h3
        go_wp2_with fail
        go_ret
        exact ⟨by rw [V.out]; rfl, by rw [HKK.out]; exact K3.out⟩
      | false =>
        have hn := hL.skip hpn hs hps hfit
        have hc : ¬ ((Utf8.decode s pos).1 = 42 ∨ (Utf8.decode s pos).1 = 63) := of_decide_eq_false (SC.symm.trans hs)
        have C := fun w => indexRune_none (Utf8.decode s pos).1 w (by omega) (by omega) (by omega)
        clear SC hs hc hps
        rw [hm.out] at hfit
        generalize ((Utf8.decode s pos).1 : Int) = c at *
        generalize (Utf8.decode s pos).2 = K at *
        generalize wr.iterAt k0 s (pos + K) = W at *
        go_wp2_with fail
        refine (C _).mono ?_; rintro e w3 ⟨i, rfl, h0, h3⟩
        have K3 : Aside (Itr w3 k0 s (pos + K) ∧ Below k0 w1 w3) := ⟨NX.out.1.below h3, NX.out.2.trans (h3.mono (by have := NX.out.2.size; have := HKK.out; omega))⟩
        have hd : decide (0 ≤ i) = false := decide_eq_false (by omega)
        clear h3
        go_wp2_with fail
        go_roundg g
        case measure => omega
        case rel => exact ⟨pos + K, by omega, by omega, by omega, K3.out⟩
    · have hpm : ¬ pos < s.size := by rw [hm.out]; exact hlt
      have hnx := fun ty => Lib.run_next_end_at (P := Tryd.prog) wr k0 s pos ty hA.out.1 hpm
      have V : Aside (res = -1) := by
        show res = _
        rw [← hres.out]
        unfold idxOf
        rw [if_neg (by have := hm.out; omega)]
      go_wp2_with fail
      go_ret
      exact ⟨by rw [V.out]; rfl, by rw [HKK.out]; exact hA.out.2⟩
theorem indexAny_any (s : ByteArray) (n : Nat) (hL : LeadIs s n) (hs : s.size ≤ 1000000) (w : World) :
    Calls Tryd.prog 34 #[.string s, .string signs] w fun e w' => e = .returned (.int .i64 (idxOf s n)) ∧ Below w.heap.size w w' := by
  by_cases h8 : s.size ≤ 8
  · exact indexAny_short s n hL h8 w
  · refine (Tryd.strings_IndexAny_long (fun w => by kernel_rfl) s signs w (by decide) (by omega) (by omega) (by decide) (fun j b hj => ?_)).mono fun e w' ⟨h1, h2⟩ => ⟨by rw [h1, indexAny_lead hL], by rw [h2]; exact ((Below.refl _ _).alloc (Nat.le_refl _) _).alloc (by simp) _⟩
    have hl : j < 2 := (List.getElem?_eq_some_iff.1 hj).1
    rcases (show j = 0 ∨ j = 1 by omega) with rfl | rfl
    · have : b = 42 := (Option.some.inj hj).symm
      rw [this]; decide
    · have : b = 63 := (Option.some.inj hj).symm
      rw [this]; decide

set_option maxRecDepth 100000 in
set_option maxHeartbeats 4000000 in
theorem lead_any (s : ByteArray) (hs : s.size ≤ 1000000) (w : World) :
    Calls Tryd.prog 14 #[.string s] w fun e w' => e = .returned (.string (leadOf s)) ∧ Below w.heap.size w w' := by
  have IA := indexAny_any s (leadN s) (lead_is s) hs w
  have hle := (lead_is s).le
  unfold leadOf
  generalize leadN s = n at *
  unfold idxOf signs at IA
  have CL : ∀ (t : ByteArray) w, t.size ≤ 1000000 → Calls Tryd.prog 35 #[.string t] w fun e w' => e = .returned (.string t) ∧ Below w.heap.size w w' := fun t w ht => by
    have C := fun w => Tryd.stringslite_Clone t w (by omega)
    clear IA
    go_enter Tryd.func35, Tryd.ntmps35
    go_wp2_with fail
    refine (C _).mono ?_; rintro e w1 ⟨rfl, h1⟩
    go_wp2_with fail
    go_ret
    exact ⟨rfl, h1⟩
  by_cases h : n < s.size
  · rw [if_pos h] at IA
    have C2 := fun w => CL (s.extract 0 n) w (by rw [ByteArray.size_extract]; omega)
    have y0 : (0 : Int) ≤ (n : Int) := by omega
    have y1 : (n : Int) ≤ (s.size : Int) := by omega
    clear CL h hle
    go_enter Tryd.func14, Tryd.ntmps14
    go_wp2_with fail
    refine IA.mono ?_; rintro e w1 ⟨rfl, h1⟩
    have K1 : Aside (Below w.heap.size w w1) := h1
    clear h1 IA
    go_wp2_with fail
    refine (C2 _).mono ?_; rintro e w2 ⟨rfl, h2⟩
    have K2 : Aside (Below w.heap.size w w2) := Keeps.step K1.out h2
    clear h2
    go_wp2_with fail
    go_ret
    exact ⟨rfl, K2.out⟩
  · rw [if_neg h] at IA
    have e : s.extract 0 n = s := by
      obtain rfl : n = s.size := by omega
      exact ByteArray.extract_zero_size
    have C2 := fun w => CL s w hs
    rw [e]
    clear CL h hle e
    go_enter Tryd.func14, Tryd.ntmps14
    go_wp2_with fail
    refine IA.mono ?_; rintro e w1 ⟨rfl, h1⟩
    have K1 : Aside (Below w.heap.size w w1) := h1
    clear h1 IA
    go_wp2_with fail
    refine (C2 _).mono ?_; rintro e w2 ⟨rfl, h2⟩
    have K2 : Aside (Below w.heap.size w w2) := Keeps.step K1.out h2
    clear h2
    go_wp2_with fail
    go_ret
    exact ⟨rfl, K2.out⟩

def isRest (c : Int) : Bool := !decide (c = 42)
/-- How many of a pattern's characters aren't stars. -/
def leastOf (p : ByteArray) : Nat := if (checkOf p).1 = 0 then ((all p).filter isRest).length else 0
def cnt (P : List Int) (k : Nat) : Nat := ((P.take k).filter isRest).length
theorem cnt_step (P : List Int) (k : Nat) (h : k < P.length) : cnt P (k + 1) = cnt P k + (if P.getD k 0 = 42 then 0 else 1) := by
  unfold cnt
  rw [List.take_succ_eq_append_getElem h, List.filter_append, List.length_append, List.getD_eq_getElem?_getD, List.getElem?_eq_getElem h]
  show _ = _ + (if P[k] = 42 then 0 else 1)
  by_cases e : P[k] = 42
  · rw [if_pos e]; simp [isRest, e]
  · rw [if_neg e]; simp [isRest, e]
theorem cnt_le (P : List Int) (k : Nat) : cnt P k ≤ k := by
  unfold cnt
  have := List.length_filter_le isRest (P.take k)
  rw [List.length_take] at this
  omega
theorem at_apple (s : ByteArray) (k : Nat) (h : k < (all s).length) : at_ (apples s) k = apple ((all s).getD k 0) := by
  unfold at_ apples
  rw [List.getD_eq_getElem?_getD, List.getElem?_map, List.getElem?_eq_getElem h, List.getD_eq_getElem?_getD, List.getElem?_eq_getElem h]
  rfl

set_option maxRecDepth 100000 in
set_option maxHeartbeats 4000000 in
theorem least_any (p : ByteArray) (hp : p.size ≤ 1000000) (w : World) (hT : Tabs w) :
    Calls Tryd.prog 16 #[.string p] w fun e w' => e = .returned (.int .i64 (leastOf p)) ∧ Below w.heap.size w w' := by
  have CK := check_any p hp w hT
  obtain ⟨m, hm⟩ : ∃ m, Hid (leastOf p = m) := ⟨_, rfl⟩
  rw [hm.out]
  clear hT
  by_cases hc : (checkOf p).1 = 0
  · have CK := CK.mono fun e w' h => check_yes hc h
    have RD := fun w => read_any p w hp
    have M : Aside (cnt (all p) (all p).length = m) := by
      show _ = m
      rw [← hm.out]; unfold leastOf cnt; rw [if_pos hc, List.take_length]
    obtain ⟨n, hn⟩ : ∃ n, Hid ((all p).length = n) := ⟨_, rfl⟩
    have hnl : Aside ((apples p).length = n) := by show _ = n; unfold apples; rw [List.length_map]; exact hn.out
    have hn0 : n ≤ 1000000 := by have := all_le p; have := hn.out; omega
    rw [hn.out] at M
    rw [hnl.out] at RD
    clear hc
    go_enter Tryd.func16, Tryd.ntmps16
    go_wp2_with fail
    refine CK.mono ?_; rintro e w1 ⟨rfl, h1⟩
    have K1 : Aside (Below w.heap.size w w1) := h1
    clear h1 CK
    go_wp2_with fail
    refine (RD _).mono ?_; rintro e w2 ⟨v, rfl, h2⟩
    have PI : PartsIn w2 v (apples p) := own_parts (by rw [hnl.out]; exact h2.out.1)
    have HV : Aside (PartsIn w2 v (apples p)) := PI
    obtain ⟨a, cap, ev, q1, q2, -⟩ := PI
    rw [hnl.out] at ev q1
    subst ev
    have K2 : Aside (Below w.heap.size w w2) := Keeps.step K1.out h2.out.2
    clear h2 RD K1
    go_wp2_with fail
    go_loopg [3, 12] n (fun g u t wr => ∃ (k c : Nat), u = .int .i64 c ∧ t = .int .i64 k ∧ g + k = n ∧ c ≤ k ∧ Aside (cnt (all p) k = c ∧ Below w2.heap.size w2 wr))
    case atStart => exact ⟨0, 0, rfl, rfl, rfl, Nat.le_refl _, rfl, Below.refl _ _⟩
    case round =>
      obtain ⟨k, c, rfl, rfl, hg, hck, hA⟩ := hrel
      by_cases hlt : k < n
      · have y0 : (0 : Int) ≤ (k : Int) := by omega
        have y1 : (k : Int) < (n : Int) := by omega
        have y2 : (0 : Int) ≤ (c : Int) := by omega
        have y3 : (c : Int) ≤ 1000000 := by omega
        obtain ⟨b, rfl, p0, p1, p2⟩ := (HV.out.below hA.out.2).at hlt
        have ha := at_apple p k (by rw [hn.out]; exact hlt)
        have CS := Lib.hid (cnt_step (all p) k (by rw [hn.out]; exact hlt))
        rw [ha] at p0 p1 p2
        obtain ⟨x, hx⟩ : ∃ x, Hid ((all p).getD k 0 = x) := ⟨_, rfl⟩
        rw [hx.out] at p0 p1 p2
        have l1 : b < wr.heap.size := lt_of_cell p0
        clear ha
        by_cases h42 : x = 42
        · subst h42
          rw [apple_star] at p0 p1 p2
          have V : Aside (cnt (all p) (k + 1) = c) := by
            show _ = c
            rw [CS.out, hx.out, if_pos rfl, hA.out.1]; rfl
          have KN : ∀ o, Aside (Below w2.heap.size w2 (wr.alloc o)) := fun o => hA.out.2.alloc hA.out.2.size _
          clear hA
          go_wp2_with fail
          go_roundg (gk - 1)
          case measure => omega
          case rel => exact ⟨k + 1, c, rfl, by go_num, by omega, by omega, V.out, (KN _).out⟩
        · have em : (apple x).many = false := decide_eq_false h42
          obtain ⟨⟨pc, f, mn⟩, hap⟩ : ∃ q, apple x = q := ⟨_, rfl⟩
          rw [hap] at p0 p1 p2 em
          have em : mn = false := em
          subst em
          have V : Aside (cnt (all p) (k + 1) = c + 1) := by
            show _ = c + 1
            rw [CS.out, hx.out, if_neg h42, hA.out.1]
          have KN : ∀ o, Aside (Below w2.heap.size w2 (wr.alloc o)) := fun o => hA.out.2.alloc hA.out.2.size _
          clear hA hap h42
          go_wp2_with fail
          go_roundg (gk - 1)
          case measure => omega
          case rel => exact ⟨k + 1, c + 1, by go_num, by go_num, by omega, by omega, V.out, (KN _).out⟩
      · obtain rfl : k = n := by omega
        have y1 : ¬ (k : Int) < (k : Int) := by omega
        have V : Aside (c = m) := hA.out.1.symm.trans M.out
        go_wp2_with fail
        go_ret
        exact ⟨by rw [← V.out]; rfl, Keeps.step K2.out hA.out.2⟩
  · have CK := CK.mono fun e w' h => out_no hc h
    have M : Aside (m = 0) := by
      show m = 0
      rw [← hm.out]; unfold leastOf; rw [if_neg hc]
    clear hc
    go_enter Tryd.func16, Tryd.ntmps16
    go_wp2_with fail
    refine CK.mono ?_; rintro e w1 ⟨bb, rfl, h1⟩
    have K1 : Aside (Below w.heap.size w w1) := h1.out.2
    go_wp2_with fail
    go_ret
    exact ⟨by rw [M.out]; rfl, K1.out⟩
end Go.Proofs.YtjijdaheabgphaaDoor.gparts
