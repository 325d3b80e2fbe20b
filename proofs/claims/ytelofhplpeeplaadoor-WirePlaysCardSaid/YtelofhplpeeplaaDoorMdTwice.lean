/- slices.IndexFunc, slices.ContainsFunc over parameters; media.twice. -/
import Derived.Test.YtelofhplpeeplaaDoorMdRead
import Derived.Test.YtelofhplpeeplaaDoorShelfF
set_option linter.unusedSimpArgs false
set_option linter.unusedVariables false
namespace Go.Proofs.YtelofhplpeeplaaDoor.media
open Go.RowKit Go.Proofs.YtelofhplpeeplaaDoor.errs

instance : Inhabited It := ⟨noIt⟩
theorem at_get (ps : List It) (j : Nat) : ps[j]! = itAt ps j := by
  unfold itAt
  rw [List.getD_eq_getElem?_getD, List.getElem!_eq_getElem?_getD]
  rfl
def named (nm : ByteArray) (x : It) : Bool := x.name.toList == nm.toList

set_option maxHeartbeats 1000000 in
theorem pred_twice (nm : ByteArray) (pb : Nat) (w : World) (hB : pb < w.heap.size) (hcell : w.cell? ⟨pb, 0, none⟩ = some (.string nm)) :
    PredBelow Tryd.prog 74 #[.pointer (some ⟨pb, 0, none⟩)] (fun x => .agg (enc x).toArray) (named nm) w := fun W x hb => by
  have hc : W.cell? ⟨pb, 0, none⟩ = some (.string nm) := (hb.cell (p := ⟨pb, 0, none⟩) hB).trans hcell
  have hBW : pb < W.heap.size := Nat.lt_of_lt_of_le hB hb.size
  have hne : pb ≠ W.heap.size := by omega
  show Calls Tryd.prog 74 #[.agg #[.string x.name, .string x.value, .bool x.has], .pointer (some ⟨pb, 0, none⟩)] W _
  unfold named
  generalize x.name = a
  generalize x.value = b
  generalize x.has = c
  have HB := Lib.hid hb
  clear hb hcell hB
  go_enter Tryd.func74, Tryd.ntmps74
  go_wp2_with fail
  go_ret
  exact ⟨rfl, HB.out.alloc HB.out.size _⟩
set_option maxHeartbeats 1000000 in
theorem pred_param (nm : ByteArray) (pb : Nat) (w : World) (hB : pb < w.heap.size) (hcell : w.cell? ⟨pb, 0, none⟩ = some (.string nm)) :
    PredBelow Tryd.prog 63 #[.pointer (some ⟨pb, 0, none⟩)] (fun x => .agg (enc x).toArray) (named nm) w := fun W x hb => by
  have hc : W.cell? ⟨pb, 0, none⟩ = some (.string nm) := (hb.cell (p := ⟨pb, 0, none⟩) hB).trans hcell
  have hBW : pb < W.heap.size := Nat.lt_of_lt_of_le hB hb.size
  have hne : pb ≠ W.heap.size := by omega
  show Calls Tryd.prog 63 #[.agg #[.string x.name, .string x.value, .bool x.has], .pointer (some ⟨pb, 0, none⟩)] W _
  unfold named
  generalize x.name = a
  generalize x.value = b
  generalize x.has = c
  have HB := Lib.hid hb
  clear hb hcell hB
  go_enter Tryd.func63, Tryd.ntmps63
  go_wp2_with fail
  go_ret
  exact ⟨rfl, HB.out.alloc HB.out.size _⟩

theorem cells_of {w : World} {a : Option Addr} {n c : Nat} {ps : List It} (h : ItemsIn w (.slice a n c) ps) (hn : 0 < n) :
    ∃ b o, a = some ⟨b, o, none⟩ ∧ b < w.heap.size ∧ ∀ j, j < ps.length → ∀ i v, (enc ps[j]!)[i]? = some v → w.cell? ⟨b, o + j * 3 + i, none⟩ = some v := by
  obtain ⟨b, o, rfl, h0⟩ := h.at hn
  refine ⟨b, o, rfl, lt_of_cell h0.1, fun j hj i v hi => ?_⟩
  have hl := h.len.1
  obtain ⟨b', o', e, hA⟩ := h.at (k := j) (by omega)
  simp only [Option.some.injEq, Addr.mk.injEq] at e
  obtain ⟨rfl, rfl, -⟩ := e
  rw [at_get] at hi
  match i, hi with
  | 0, hi => simp [enc] at hi; rw [← hi]; exact hA.1
  | 1, hi => simp [enc] at hi; rw [← hi]; exact hA.2.1
  | 2, hi => simp [enc] at hi; rw [← hi]; exact hA.2.2
  | i + 3, hi => simp [enc] at hi

set_option maxHeartbeats 1000000 in
theorem index_empty (a : Option Addr) (c : Nat) (f : Value) (w : World) :
    Calls Tryd.prog 64 #[.slice a 0 c, f] w fun e w' => e = .returned (.int .i64 (-1)) ∧ Below w.heap.size w w' := by
  go_enter Tryd.func64, Tryd.ntmps64
  go_wp2_with fail
  go_loopg [8] 1 (fun g b wr => b = .int .i64 0 ∧ g = 1 ∧ wr = w)
  case atStart => exact ⟨rfl, rfl, rfl⟩
  case round =>
    obtain ⟨rfl, hg, rfl⟩ := hrel
    go_wp2_with fail
    go_ret
    exact ⟨rfl, Below.refl _ _⟩
set_option maxHeartbeats 1000000 in
theorem contains_empty (a : Option Addr) (c : Nat) (f : Value) (w : World) :
    Calls Tryd.prog 75 #[.slice a 0 c, f] w fun e w' => e = .returned (.bool false) ∧ Below w.heap.size w w' := by
  have C := index_empty a c f
  go_enter Tryd.func75, Tryd.ntmps75
  go_wp2_with fail
  refine (C _).mono ?_; rintro e w1 ⟨rfl, hb⟩
  go_wp2_with fail
  go_ret
  exact ⟨rfl, hb⟩

theorem contains_any {w : World} {a : Option Addr} {n c : Nat} {ps : List It} (h : ItemsIn w (.slice a n c) ps) (i : Nat) (hi : i ≤ n) (hn : n ≤ 1000000) (nm : ByteArray) (pb : Nat) (hB : pb < w.heap.size) (hcell : w.cell? ⟨pb, 0, none⟩ = some (.string nm)) :
    Calls Tryd.prog 75 #[.slice a i c, .func (.func 74) #[] #[.pointer (some ⟨pb, 0, none⟩)]] w fun e w' => e = .returned (.bool ((ps.take i).any (named nm))) ∧ Below w.heap.size w w' := by
  by_cases h0 : i = 0
  · subst h0
    exact contains_empty a c _ w
  · obtain ⟨b, o, rfl, hb, hc⟩ := cells_of h (by omega)
    have eg : ∀ args w, (callFunc 74 args).run Tryd.prog w = .ok (.enter 74 args) w := enters_of Tryd.func74 (by kernel_rfl) rfl
    exact AnyQ.slices_ContainsFunc Tryd.containsF 3 Tryd.isAgg122 Tryd.sizeOf122 enc (fun _ => rfl) (named nm) 74 #[.pointer (some ⟨pb, 0, none⟩)] eg b o i c ps w
      (pred_twice nm pb w hB hcell) (by rw [h.len.1]; exact hi) (by omega) hb hc
theorem index_any {w : World} {a : Option Addr} {n c : Nat} {ps : List It} (h : ItemsIn w (.slice a n c) ps) (hn : n ≤ 1000000) (nm : ByteArray) (pb : Nat) (hB : pb < w.heap.size) (hcell : w.cell? ⟨pb, 0, none⟩ = some (.string nm)) :
    Calls Tryd.prog 64 #[.slice a n c, .func (.func 63) #[] #[.pointer (some ⟨pb, 0, none⟩)]] w fun e w' => e = .returned (.int .i64 (Lib.idxBy (fun _ y => named nm y) ps default)) ∧ Below w.heap.size w w' := by
  have hl := h.len.1
  by_cases h0 : n = 0
  · subst h0
    obtain rfl : ps = [] := List.length_eq_zero_iff.1 hl
    exact index_empty a c _ w
  · obtain ⟨b, o, rfl, hb, hc⟩ := cells_of h (by omega)
    have eg : ∀ args w, (callFunc 63 args).run Tryd.prog w = .ok (.enter 63 args) w := enters_of Tryd.func63 (by kernel_rfl) rfl
    have := AnyQ.slices_IndexFunc Tryd.indexF 3 Tryd.isAgg122 Tryd.sizeOf122 enc (fun _ => rfl) (named nm) 63 #[.pointer (some ⟨pb, 0, none⟩)] eg b o n c ps w
      (pred_param nm pb w hB hcell) (by omega) (by omega) hb hc
    rw [List.take_of_length_le (by omega)] at this
    exact this

theorem str_same (a b : ByteArray) : (a.toList == b.toList) = decide (a = b) := by
  rw [Lib.toList_data, Lib.toList_data]
  by_cases e : a = b
  · rw [decide_eq_true e, e]; exact beq_self_eq_true _
  · rw [decide_eq_false e]
    refine beq_eq_false_iff_ne.2 (fun q => e ?_)
    apply ByteArray.ext
    exact Array.toList_inj.1 q

set_option maxRecDepth 100000 in
set_option maxHeartbeats 1000000 in
theorem twice_any (ps : List It) (a : Option Addr) (n c : Nat) (w : World) (h : ItemsIn w (.slice a n c) ps) (hn : n ≤ 1000000) :
    Calls Tryd.prog 62 #[.slice a n c] w fun e w' => e = .returned (.bool (twin ps)) ∧ Below w.heap.size w w' := by
  obtain ⟨hl, hc1, hc2⟩ := h.len
  have HI := Lib.hid h
  have HL := Lib.hid hl
  clear h hl
  obtain ⟨res, hres⟩ : ∃ res, Hid (twin ps = res) := ⟨_, rfl⟩
  rw [hres.out]
  go_enter Tryd.func62, Tryd.ntmps62
  go_wp2_with fail
  go_loopg [8] n (fun g t wr => ∃ i : Nat, t = .int .i64 i ∧ g + i = n ∧ Hid (∀ j k, k < j → j < i → (itAt ps k).name ≠ (itAt ps j).name) ∧ Aside (Below w.heap.size w wr))
  case atStart => exact ⟨0, rfl, rfl, fun j k _ hj => absurd hj (Nat.not_lt_zero _), Below.refl _ _⟩
  case round =>
    obtain ⟨i, rfl, hg, hd, hA⟩ := hrel
    have y1 : (0 : Int) ≤ (i : Int) := by omega
    by_cases hlt : i < n
    · have y0 : (i : Int) < (n : Int) := by omega
      have hIw : ItemsIn wr (.slice a n c) ps := HI.out.below hA.out
      obtain ⟨b, o, rfl, c0, c1, c2⟩ := hIw.at hlt
      have y2 : (i : Int) ≤ (c : Int) := by omega
      have hAl : Hid (ItemsIn (wr.alloc (.cells #[.string (itAt ps i).name, .string (itAt ps i).value, .bool (itAt ps i).has] 122)) (.slice (some ⟨b, o, none⟩) n c) ps) := hIw.below ((Below.refl _ _).alloc (Nat.le_refl _) _)
      have CC := contains_any hAl.out i (by omega) hn (itAt ps i).name wr.heap.size (by simp) (by simp)
      have hA2 : Aside (Below w.heap.size w (wr.alloc (.cells #[.string (itAt ps i).name, .string (itAt ps i).value, .bool (itAt ps i).has] 122))) := hA.out.alloc hA.out.size _
      have V : Hid ((∀ x ∈ ps.take i, named (itAt ps i).name x = false) → ∀ j k, k < j → j < i + 1 → (itAt ps k).name ≠ (itAt ps j).name) := by
        intro hx j k hk hj
        by_cases e : j = i
        · subst e
          intro q
          have hkl : k < ps.length := by rw [HL.out]; omega
          have hm : itAt ps k ∈ ps.take j := by
            have : itAt ps k = ps[k] := by unfold itAt; rw [List.getD_eq_getElem?_getD, List.getElem?_eq_getElem hkl]; rfl
            rw [this]
            exact List.mem_take_iff_getElem.2 ⟨k, by omega, rfl⟩
          have := hx _ hm
          unfold named at this
          rw [str_same, decide_eq_true q] at this
          cases this
        · exact hd.out j k hk (by omega)
      have V2 : Hid ((ps.take i).any (named (itAt ps i).name) = true → res = true) := by
        intro hx
        obtain ⟨x, hx1, hx2⟩ := List.any_eq_true.1 hx
        obtain ⟨k, hk, rfl⟩ := List.mem_take_iff_getElem.1 hx1
        rw [← hres.out]
        refine twin_yes ⟨i, k, by omega, by rw [HL.out]; exact hlt, ?_⟩
        unfold named at hx2
        rw [str_same] at hx2
        have : itAt ps k = ps[k] := by unfold itAt; rw [List.getD_eq_getElem?_getD, List.getElem?_eq_getElem (by omega)]; rfl
        rw [this]
        exact of_decide_eq_true hx2
      clear hIw hd hAl
      obtain ⟨q, hq⟩ : ∃ q, (ps.take i).any (named (itAt ps i).name) = q := ⟨_, rfl⟩
      rw [hq] at CC
      generalize (itAt ps i).name = nm at *
      generalize (itAt ps i).value = vl at *
      generalize (itAt ps i).has = hs at *
      have HQ := Lib.hid hq
      clear hq hA
      go_wp2_with fail
      refine CC.mono ?_; rintro e w2 ⟨rfl, hb⟩
      have K : Aside (Below w.heap.size w w2) := hA2.out.trans (hb.mono hA2.out.size)
      clear hb
      cases q with
      | true =>
        go_wp2_with fail
        go_ret
        exact ⟨by rw [V2.out HQ.out]; rfl, K.out⟩
      | false =>
        go_wp2_with fail
        go_roundg (gk - 1)
        case measure => omega
        case rel => exact ⟨i + 1, by go_num, by omega, V.out (fun x hx => by
          cases e : named nm x with
          | false => rfl
          | true => have := List.any_eq_false.1 HQ.out x hx; rw [e] at this; exact absurd rfl this), K.out⟩
    · have y0 : ¬ (i : Int) < (n : Int) := by omega
      have V : Aside (res = false) := by
        show _ = _
        rw [← hres.out]
        refine twin_no ?_
        rintro ⟨j, k, h1, h2, h3⟩
        rw [HL.out] at h2
        exact hd.out j k h1 (by omega) h3
      clear hd
      go_wp2_with fail
      go_ret
      exact ⟨by rw [V.out]; rfl, hA.out⟩
end Go.Proofs.YtelofhplpeeplaaDoor.media
