/- hold: a text's characters as they are looked at; held.variable: the places that a variable can end at. -/
import Derived.Test.YtoilalffhmjhdaaGreatDoorSbValues
import Derived.Test.YtoilalffhmjhdaaGreatDoorSbClass
import Derived.Test.YtoilalffhmjhdaaGreatDoorGlMatch
set_option linter.unusedSimpArgs false
set_option linter.unusedVariables false
namespace Go.Proofs.YtoilalffhmjhdaaGreatDoor.subst
open Go.RowKit Go.Proofs.YtoilalffhmjhdaaGreatDoor.errs Go.Proofs.YtoilalffhmjhdaaGreatDoor.rows Go.Proofs.YtoilalffhmjhdaaGreatDoor.utf Go.Proofs.YtoilalffhmjhdaaGreatDoor.chars Go.Proofs.YtoilalffhmjhdaaGreatDoor.gmath Go.Proofs.YtoilalffhmjhdaaGreatDoor.glref

theorem runes_list (s : ByteArray) : ∀ (g i : Nat) (acc : Array Value), (Conv.runesFrom s g i acc).toList = acc.toList ++ (from_ s g i).map (Value.int .i32)
  | 0, i, acc => by simp [Conv.runesFrom, from_]
  | g + 1, i, acc => by
    unfold Conv.runesFrom
    by_cases h : i < s.size
    · rw [if_pos h, from_step s g i h]
      show (Conv.runesFrom s g (i + (Utf8.decode s i).2) (acc.push (.int .i32 (Int.ofNat (Utf8.decode s i).1)))).toList = _
      rw [runes_list s g]
      simp
    · rw [if_neg h, from_end s _ i (by omega)]; simp
theorem runes_new (s : ByteArray) (hs : s.size ≤ 1000000) (w : World) : ∃ b cap W, Hid ((convert 9 64 (.string s)).run Tryz.prog w = .ok (.slice (some ⟨b, 0, none⟩) (all s).length cap) W) ∧ Hid (Chs W b cap (all s) ∧ Below w.heap.size w W ∧ w.heap.size ≤ b) := by
  have hl : (Conv.runesFrom s s.size 0 #[]).toList = (all s).map (Value.int .i32) := by rw [runes_list]; rfl
  have hz : (Conv.runesFrom s s.size 0 #[]).size = (all s).length := by rw [← Array.length_toList, hl, List.length_map]
  have hle := all_le s
  have hr := run_runes_of_string (P := Tryz.prog) w 9 64 21 s Tryz.underlying9 Tryz.underlying64 Tryz.underlying21 (by rw [hz]; omega)
  rw [hz] at hr
  refine ⟨_, _, _, hr, ⟨grownCap_ge _ _ _ _, ?_, by simp, fun j hj => ?_⟩, ?_, Nat.le_refl _⟩
  · have := grownCap_le_maxLen w (all s).length 0 21 (by unfold maxLen; omega)
    unfold maxLen at this
    omega
  · show (w.drew.alloc _).cell? ⟨w.drew.heap.size, j, none⟩ = _
    rw [World.cell?_alloc_at _ _ _ _ rfl]
    have h1 : (Conv.runesFrom s s.size 0 #[])[j]? = some (.int .i32 ((all s).getD j 0)) := by
      rw [← Array.getElem?_toList, hl, List.getElem?_map, List.getElem?_eq_getElem hj, List.getD_eq_getElem?_getD, List.getElem?_eq_getElem hj]
      rfl
    show (Conv.runesFrom s s.size 0 #[] ++ _)[j]? = _
    rw [Array.getElem?_append_left (by rw [hz]; exact hj), h1]
  · exact (Below.drew (Below.refl _ _)).alloc (by simp) _

theorem Chs.set {w : World} {b cap : Nat} {X : List Int} (h : Chs w b cap X) {c k : Nat} (hc : c ≠ b) (x : Value) : Chs (w.setCell ⟨c, k, none⟩ x) b cap X :=
  ⟨h.1, h.2.1, by simp [World.setCell]; exact h.2.2.1, fun j hj => (World.cell?_setCell_other _ _ _ _ (adr_ne hc)).trans (h.2.2.2 j hj)⟩
/-- What hold answers. -/
def HoldOut (fold : Bool) (X : List Int) (w : World) (e : Ending) (w' : World) : Prop := ∃ b cap, e = .returned (.agg #[.slice (some ⟨b, 0, none⟩) X.length cap, .bool fold]) ∧ Aside (Chs w' b cap X ∧ Below w.heap.size w w')
set_option maxRecDepth 100000 in
set_option maxHeartbeats 2000000 in
theorem hold_any (s : ByteArray) (fold : Bool) (hs : s.size ≤ 1000000) (w : World) :
    Calls Tryz.prog 31 #[.string s, .bool fold] w fun e w' => HoldOut fold ((all s).map (fo fold)) w e w' := by
  have SN := fun w => seen_any (.slice none 0 0) fold s hs w
  have RN := runes_new (fs fold s) (by rw [fs_size]; exact hs)
  rw [← all_fs]
  generalize fs fold s = s' at *
  have HR := Lib.hid RN
  clear RN hs
  go_enter Tryz.func31, Tryz.ntmps31
  go_wp2_with fail
  have A1 : Hid (((w.alloc (.cells #[.slice none 0 0, .bool false] 66)).alloc (.cells #[.slice none 0 0, .bool fold] 66)).heap[w.heap.size]? = some (.cells #[.slice none 0 0, .bool false] 66 (0, 0)) ∧
      ((w.alloc (.cells #[.slice none 0 0, .bool false] 66)).alloc (.cells #[.slice none 0 0, .bool fold] 66)).heap[w.heap.size + 1]? = some (.cells #[.slice none 0 0, .bool fold] 66 (0, 0)) ∧ Below w.heap.size w ((w.alloc (.cells #[.slice none 0 0, .bool false] 66)).alloc (.cells #[.slice none 0 0, .bool fold] 66))) := by
    refine ⟨(Below.heap_alloc _ _ _ (by simp)).trans (heap_alloc_new w _), ?_, ((Below.refl _ _).alloc (Nat.le_refl _) _).alloc (by simp) _⟩
    have := heap_alloc_new (w.alloc (.cells #[.slice none 0 0, .bool false] 66)) (.cells #[.slice none 0 0, .bool fold] 66)
    rwa [World.size_alloc] at this
  generalize (w.alloc (.cells #[.slice none 0 0, .bool false] 66)).alloc (.cells #[.slice none 0 0, .bool fold] 66) = V0 at *
  refine (SN _).mono ?_; rintro e w1 ⟨rfl, hb⟩
  obtain ⟨b, cap, W, cv, hW⟩ := HR.out w1
  have cv := cv.out
  have A2 : Hid (W.heap[w.heap.size]? = some (.cells #[.slice none 0 0, .bool false] 66 (0, 0)) ∧ W.heap[w.heap.size + 1]? = some (.cells #[.slice none 0 0, .bool fold] 66 (0, 0)) ∧ Below w.heap.size w W ∧ Chs W b cap (all s') ∧ w.heap.size + 1 < b) := by
    obtain ⟨a1, a2, a3⟩ := A1.out
    have hk : Keeps V0 W := Keeps.step hb hW.out.2.1
    have l1 := (Array.getElem?_eq_some_iff.1 a1).1
    have l2 := (Array.getElem?_eq_some_iff.1 a2).1
    have l3 := hb.size
    exact ⟨(hk.block _ l1).trans a1, (hk.block _ l2).trans a2, a3.trans (Below.mono hk a3.size), hW.out.1, by have := hW.out.2.2; omega⟩
  have q0 : W.cell? ⟨w.heap.size + 1, 0, none⟩ = some (.slice none 0 0) := cell_of_heap A2.out.2.1 rfl
  have q1 : W.cell? ⟨w.heap.size + 1, 1, none⟩ = some (.bool fold) := cell_of_heap A2.out.2.1 rfl
  have f0 : W.frozen? ⟨w.heap.size + 1, 0, none⟩ = false := by simp [World.frozen?, A2.out.2.1]
  have p0 : W.cell? ⟨w.heap.size, 0, none⟩ = some (.slice none 0 0) := cell_of_heap A2.out.1 rfl
  have p1 : W.cell? ⟨w.heap.size, 1, none⟩ = some (.bool false) := cell_of_heap A2.out.1 rfl
  have g0 : W.frozen? ⟨w.heap.size, 0, none⟩ = false := by simp [World.frozen?, A2.out.1]
  have g1 : W.frozen? ⟨w.heap.size, 1, none⟩ = false := by simp [World.frozen?, A2.out.1]
  clear hb hW A1 SN HR
  obtain ⟨xn, hxn⟩ : ∃ xn, Hid ((all s').length = xn) := ⟨_, rfl⟩
  rw [hxn.out] at cv
  go_wp2_with fail
  refine bodyPost_ret (v := .agg #[.slice (some ⟨b, 0, none⟩) xn cap, .bool fold]) (by simp [results, Tryz.results31, go_sem, q0, q1, p0, p1]) rfl ⟨b, cap, by rw [hxn.out], ?_, ?_⟩
  · exact ((A2.out.2.2.2.1.set (by have := A2.out.2.2.2.2; omega) _).set (by have := A2.out.2.2.2.2; omega) _).set (by have := A2.out.2.2.2.2; omega) _
  · exact ((A2.out.2.2.1.setCell (p := ⟨w.heap.size + 1, 0, none⟩) (by simp) _).setCell (p := ⟨w.heap.size, 0, none⟩) (Nat.le_refl _) _).setCell (p := ⟨w.heap.size, 1, none⟩) (Nat.le_refl _) _

/-- The kinds of variables that there are, as what a part stands for. -/
def spansOf (fold : Bool) (c : Cl) : ByteArray := fs fold (T c.spans)
def varPc (fold : Bool) (l : List Vr) (nm : List UInt8) : Pc :=
  match classOf nm with
  | some c => .cls (inSpans (spansOf fold c).data.toList) c.size
  | none => match findVr l (T nm) with
    | some x => .vals (okPats fold x.vals)
    | none => .vals []
theorem spans_even (fold : Bool) : ∀ c ∈ clTab, (spansOf fold c).size = 2 * (c.spans.length / 2) ∧ c.size ≤ 2 ∧ c.spans.length ≤ 6 := fun c hc => by
  unfold spansOf
  rw [fs_size]
  show c.spans.length = _ ∧ _
  revert c
  decide
theorem Chs.grown {w w' : World} {b cap : Nat} {X : List Int} (h : Chs w b cap X) {row : Option Nat} (hg : w.grownBy w' row) (hr : row ≠ some b) : Chs w' b cap X :=
  ⟨h.1, h.2.1, Nat.lt_of_lt_of_le h.2.2.1 hg.size, fun j hj => hg.cell (a := ⟨b, j, none⟩) (h.2.2.2 j hj) (fun e => hr e.symm)⟩
theorem below_grown {w w' : World} (h : Keeps w w') (row : Option Nat) : w.grownBy w' row := ⟨h.os, h.tape, h.output, h.size, fun k hk _ => h.block k hk⟩
theorem PatOut.step {B : Nat} {v : Value} {L : List Nat} {w w' : World} {e : Ending} (h : PatOut L w e w') (hB : B ≤ w.heap.size) : StepOut B v L w e w' := by
  obtain ⟨v', h1, h2⟩ := h
  exact ⟨v', h1, h2.out.1.mono hB, below_grown h2.out.2 _, .inr fun g hg => h2.out.1.ge hg⟩
set_option maxRecDepth 100000 in
set_option maxHeartbeats 4000000 in
theorem var_vals (X : List Int) (rb rcap : Nat) (fold : Bool) (L : List Nat) (v vv : Value) (nm : List UInt8) (l : List Vr) (w : World) (hC : Chs w rb rcap X) (hv : NatsIn w v L) (hs : VarsIn w vv l) (hXl : X.length ≤ 1000000) (hg : Good X.length L) (hz : ∀ x ∈ l, x.vals.length ≤ 1000000 ∧ ∀ s ∈ x.vals, s.size ≤ 1000000) (hn : l.length ≤ 1000000) (hT : Tabs w) (hK : Clss w) (hc : classOf nm = none) :
    Calls Tryz.prog 32 #[.agg #[.slice (some ⟨rb, 0, none⟩) X.length rcap, .bool fold], v, .string (T nm), vv] w fun e w' => PatOut ((varPc fold l nm).step X L) w e w' := by
  obtain ⟨W0, hW0⟩ : ∃ W0, w.alloc (.cells #[.slice (some ⟨rb, 0, none⟩) X.length rcap, .bool fold] 66) = W0 := ⟨_, rfl⟩
  have hB0 : Keeps w W0 := by rw [← hW0]; exact (Below.refl _ _).alloc (Nat.le_refl _) _
  have A0 : Hid (W0.heap[w.heap.size]? = some (.cells #[.slice (some ⟨rb, 0, none⟩) X.length rcap, .bool fold] 66 (0, 0)) ∧ Below w.heap.size w W0) := ⟨by rw [← hW0]; exact heap_alloc_new w _, hB0⟩
  have C := class_any nm W0 (hK.below hB0 (Nat.le_refl _))
  rw [hc] at C
  have C : Calls Tryz.prog 42 #[.string (T nm)] W0 fun e w' => e = .returned (.tuple #[.agg #[.string ⟨#[]⟩, .string ⟨#[]⟩, .int .i64 0], .bool false]) ∧ Below W0.heap.size W0 w' := C
  have VP : Hid ((varPc fold l nm).step X L = valsL X (okPats fold (((findVr l (T nm)).map Vr.vals).getD [])) L) := by
    show _ = _
    unfold varPc
    rw [hc]
    cases findVr l (T nm) <;> rfl
  have HS := Lib.hid (⟨hC, hv, hs, hg, hz, hn, hT⟩ : _ ∧ _ ∧ _ ∧ _ ∧ _ ∧ _ ∧ _)
  have VO : Hid (∀ w', Keeps w w' → Calls Tryz.prog 46 #[.string (T nm), vv] w' fun e w'' => ∃ sv q, e = .returned (.tuple #[sv, .bool q]) ∧ Aside (StrsIn w'' sv (((findVr l (T nm)).map Vr.vals).getD []) ∧ Below w'.heap.size w' w'')) := fun w' hb => by
    refine (values_of l vv (T nm) w' (hs.below hb) (by omega)).mono ?_
    intro e w'' h
    cases hf : findVr l (T nm) with
    | none => rw [hf] at h; exact ⟨_, _, h.1, strsIn_nil _, h.2⟩
    | some x => rw [hf] at h; obtain ⟨sv, h1, h2⟩ := h; exact ⟨sv, _, h1, h2.out.1.below h2.out.2, h2.out.2⟩
  have hvl : Hid ((((findVr l (T nm)).map Vr.vals).getD []).length ≤ 1000000 ∧ ∀ s ∈ (((findVr l (T nm)).map Vr.vals).getD []), s.size ≤ 1000000) := by
    cases hf : findVr l (T nm) with
    | none => exact ⟨Nat.zero_le _, fun s h => by cases h⟩
    | some x => exact hz x (List.mem_of_find?_eq_some hf)
  rw [VP.out]
  have HW0 := Lib.hid hW0
  generalize ((findVr l (T nm)).map Vr.vals).getD [] = vs at *
  clear hC hv hs hg hz hn hT hK hc hB0 hW0 VP
  generalize T nm = nm' at *
  have HX := Lib.hid hXl
  obtain ⟨RR, hRR⟩ : ∃ RR, Hid (valsL X (okPats fold vs) L = RR) := ⟨_, rfl⟩
  rw [hRR.out]
  obtain ⟨xn, hxn⟩ : ∃ xn, Hid (X.length = xn) := ⟨_, rfl⟩
  rw [hxn.out] at A0 HW0 ⊢
  clear hXl
  go_enter Tryz.func32, Tryz.ntmps32
  go_wp2_with fail
  rw [HW0.out]
  refine C.mono ?_; rintro e w1 ⟨rfl, hb⟩
  have K1 : Hid (Keeps w (w1.alloc (.cells #[.string ⟨#[]⟩, .string ⟨#[]⟩, .int .i64 0] 82)) ∧ (w1.alloc (.cells #[.string ⟨#[]⟩, .string ⟨#[]⟩, .int .i64 0] 82)).heap[w.heap.size]? = some (.cells #[.slice (some ⟨rb, 0, none⟩) xn rcap, .bool fold] 66 (0, 0))) := by
    have hk : Keeps W0 (w1.alloc (.cells #[.string ⟨#[]⟩, .string ⟨#[]⟩, .int .i64 0] 82)) := Below.alloc hb hb.size _
    exact ⟨A0.out.2.trans (Below.mono hk A0.out.2.size), (hk.block _ (Array.getElem?_eq_some_iff.1 A0.out.1).1).trans A0.out.1⟩
  clear hb C
  go_wp2_with fail
  generalize w1.alloc (.cells #[.string ⟨#[]⟩, .string ⟨#[]⟩, .int .i64 0] 82) = W1 at *
  refine (VO.out _ K1.out.1).mono ?_; rintro e w2 ⟨sv, q, rfl, h2⟩
  have K2 : Hid (Keeps w w2 ∧ w2.heap[w.heap.size]? = some (.cells #[.slice (some ⟨rb, 0, none⟩) xn rcap, .bool fold] 66 (0, 0)) ∧ StrsIn w2 sv vs) :=
    ⟨K1.out.1.trans (h2.out.2.mono K1.out.1.size), (h2.out.2.block _ (Array.getElem?_eq_some_iff.1 K1.out.2).1).trans K1.out.2, h2.out.1⟩
  clear h2 VO
  have c0 : w2.cell? ⟨w.heap.size, 0, none⟩ = some (.slice (some ⟨rb, 0, none⟩) xn rcap) := cell_of_heap K2.out.2.1 rfl
  have c1 : w2.cell? ⟨w.heap.size, 1, none⟩ = some (.bool fold) := cell_of_heap K2.out.2.1 rfl
  have D := values_any X rb rcap fold L v sv vs w2 (HS.out.1.below K2.out.1) (HS.out.2.1.below K2.out.1) K2.out.2.2 HX.out HS.out.2.2.2.1 hvl.out.2 hvl.out.1 (HS.out.2.2.2.2.2.2.below K2.out.1 (Nat.le_refl _))
  rw [hxn.out, hRR.out] at D
  go_wp2_with fail
  (with_reducible refine D.mono ?_); rintro e w3 ⟨v3, rfl, h3⟩
  have K3 : Hid (Nats w3 w.heap.size v3 RR ∧ Below w.heap.size w w3) := ⟨h3.out.1.mono K2.out.1.size, K2.out.1.trans (h3.out.2.mono K2.out.1.size)⟩
  clear h3 D c0 c1
  go_wp2_with fail
  go_ret
  exact ⟨v3, rfl, K3.out⟩

set_option maxRecDepth 100000 in
set_option maxHeartbeats 4000000 in
theorem var_cls (X : List Int) (rb rcap : Nat) (fold : Bool) (L : List Nat) (v vv : Value) (nm : List UInt8) (l : List Vr) (B : Nat) (c : Cl) (w : World) (hC : Chs w rb rcap X) (hr : rb < B) (hv : Nats w B v L) (hB : B ≤ w.heap.size) (hXl : X.length ≤ 1000000) (hg : Good X.length L) (hK : Clss w) (hc : classOf nm = some c) :
    Calls Tryz.prog 32 #[.agg #[.slice (some ⟨rb, 0, none⟩) X.length rcap, .bool fold], v, .string (T nm), vv] w fun e w' => StepOut B v ((varPc fold l nm).step X L) w e w' := by
  obtain ⟨W0, hW0⟩ : ∃ W0, w.alloc (.cells #[.slice (some ⟨rb, 0, none⟩) X.length rcap, .bool fold] 66) = W0 := ⟨_, rfl⟩
  have hB0 : Keeps w W0 := by rw [← hW0]; exact (Below.refl _ _).alloc (Nat.le_refl _) _
  have A0 : Hid (W0.heap[w.heap.size]? = some (.cells #[.slice (some ⟨rb, 0, none⟩) X.length rcap, .bool fold] 66 (0, 0)) ∧ Below w.heap.size w W0) := ⟨by rw [← hW0]; exact heap_alloc_new w _, hB0⟩
  have CL := class_any nm W0 (hK.below hB0 (Nat.le_refl _))
  rw [hc] at CL
  have CL : Calls Tryz.prog 42 #[.string (T nm)] W0 fun e w' => e = .returned (.tuple #[.agg #[.string (T c.name), .string (T c.spans), .int .i64 (c.size : Int)], .bool true]) ∧ Below W0.heap.size W0 w' := CL
  have hmem : c ∈ clTab := List.mem_of_find?_eq_some hc
  obtain ⟨e1, e2, e3⟩ := spans_even fold c hmem
  have VP : Hid ((varPc fold l nm).step X L = timesL (inSpans (spansOf fold c).data.toList) X c.size L) := by
    show _ = _
    unfold varPc
    rw [hc]; rfl
  have SN := fun w => seen_any (.slice (some ⟨rb, 0, none⟩) X.length rcap) fold (T c.spans) (by show c.spans.length ≤ _; omega) w
  have hsz : (spansOf fold c).size ≤ 1000000 := by unfold spansOf; rw [fs_size]; show c.spans.length ≤ _; omega
  have SE := Lib.hid (⟨e1, hsz⟩ : _ ∧ _)
  have HS := Lib.hid (⟨hC, hv, hg, hXl, hr, hB⟩ : _ ∧ _ ∧ _ ∧ _ ∧ _ ∧ _)
  rw [VP.out]
  have HW0 := Lib.hid hW0
  have SN : ∀ w, Calls Tryz.prog 52 #[.agg #[.slice (some ⟨rb, 0, none⟩) X.length rcap, .bool fold], .string (T c.spans)] w fun e w' => e = .returned (.string (spansOf fold c)) ∧ Below w.heap.size w w' := SN
  generalize spansOf fold c = sp at *
  generalize T c.spans = csp at *
  generalize T c.name = cnm at *
  generalize T nm = nm' at *
  generalize c.spans.length / 2 = m2 at *
  have y0 : c.size ≤ 2 := e2
  generalize c.size = sz at *
  obtain ⟨xn, hxn⟩ : ∃ xn, Hid (X.length = xn) := ⟨_, rfl⟩
  obtain ⟨RR, hRR⟩ : ∃ RR, Hid (timesL (inSpans sp.data.toList) X sz L = RR) := ⟨_, rfl⟩
  rw [hRR.out]
  rw [hxn.out] at A0 HW0 SN ⊢
  clear hC hr hv hB hXl hg hK hc hB0 hW0 hmem e1 e2 e3 hsz VP
  go_enter Tryz.func32, Tryz.ntmps32
  go_wp2_with fail
  rw [HW0.out]
  refine CL.mono ?_; rintro e w1 ⟨rfl, hb⟩
  have K1 : Hid (Keeps w (w1.alloc (.cells #[.string cnm, .string csp, .int .i64 (sz : Int)] 82)) ∧ (w1.alloc (.cells #[.string cnm, .string csp, .int .i64 (sz : Int)] 82)).heap[w.heap.size]? = some (.cells #[.slice (some ⟨rb, 0, none⟩) xn rcap, .bool fold] 66 (0, 0)) ∧ (w1.alloc (.cells #[.string cnm, .string csp, .int .i64 (sz : Int)] 82)).heap[w1.heap.size]? = some (.cells #[.string cnm, .string csp, .int .i64 (sz : Int)] 82 (0, 0))) := by
    have hk : Keeps W0 (w1.alloc (.cells #[.string cnm, .string csp, .int .i64 (sz : Int)] 82)) := Below.alloc hb hb.size _
    exact ⟨A0.out.2.trans (Below.mono hk A0.out.2.size), (hk.block _ (Array.getElem?_eq_some_iff.1 A0.out.1).1).trans A0.out.1, heap_alloc_new w1 _⟩
  have l1 : w.heap.size < w1.heap.size := by have := hb.size; have := (Array.getElem?_eq_some_iff.1 A0.out.1).1; omega
  have k0 : w1.cell? ⟨w.heap.size, 0, none⟩ = some (.slice (some ⟨rb, 0, none⟩) xn rcap) := cell_of_heap ((hb.block _ (Array.getElem?_eq_some_iff.1 A0.out.1).1).trans A0.out.1) rfl
  have k1 : w1.cell? ⟨w.heap.size, 1, none⟩ = some (.bool fold) := cell_of_heap ((hb.block _ (Array.getElem?_eq_some_iff.1 A0.out.1).1).trans A0.out.1) rfl
  clear hb CL
  go_wp2_with fail
  generalize w1.alloc (.cells #[.string cnm, .string csp, .int .i64 (sz : Int)] 82) = W1 at *
  generalize hw1 : w1.heap.size = cb at *
  refine (SN _).mono ?_; rintro e w2 ⟨rfl, hb⟩
  have K2 : Hid (Keeps w (w2.alloc (.cells #[.string sp] 9)) ∧ (w2.alloc (.cells #[.string sp] 9)).heap[w.heap.size]? = some (.cells #[.slice (some ⟨rb, 0, none⟩) xn rcap, .bool fold] 66 (0, 0)) ∧ (w2.alloc (.cells #[.string sp] 9)).heap[w2.heap.size]? = some (.cells #[.string sp] 9 (0, 0))) := by
    have hk : Keeps W1 (w2.alloc (.cells #[.string sp] 9)) := Below.alloc hb hb.size _
    exact ⟨K1.out.1.trans (Below.mono hk K1.out.1.size), (hk.block _ (Array.getElem?_eq_some_iff.1 K1.out.2.1).1).trans K1.out.2.1, heap_alloc_new w2 _⟩
  have s2 : w2.cell? ⟨cb, 2, none⟩ = some (.int .i64 (sz : Int)) := cell_of_heap ((hb.block _ (Array.getElem?_eq_some_iff.1 K1.out.2.2).1).trans K1.out.2.2) rfl
  have l2 : cb < w2.heap.size := lt_of_cell s2
  clear hb SN k0 k1 hw1
  go_wp2_with fail
  generalize w2.alloc (.cells #[.string sp] 9) = W3 at *
  generalize w2.heap.size = pb at *
  have ST : Hid (Nats W3 B v L ∧ Keeps w W3) := ⟨HS.out.2.1.kept K2.out.1, K2.out.1⟩
  have VN : Hid (∀ (k : Nat) (t0 : Value) (wr : World), Nats wr B t0 (timesL (inSpans sp.data.toList) X k L) → W3.grownBy wr v.ownBlock → t0.ownBlock = v.ownBlock → Calls Tryz.prog 54 #[.agg #[.slice (some ⟨rb, 0, none⟩) xn rcap, .bool fold], t0, .func (.func 55) #[] #[.pointer (some ⟨pb, 0, none⟩)]] wr fun e w' => BehindOut B t0 (timesL (inSpans sp.data.toList) X (k + 1) L) wr e w') := fun k t0 wr h1 h2 h3 => by
    have hgd : Good X.length (timesL (inSpans sp.data.toList) X k L) := times_good _ k HS.out.2.2.1
    have hln := good_len hgd
    have hx := HS.out.2.2.2.1
    have hC3 : Chs wr rb rcap X := (HS.out.1.below K2.out.1).grown h2 (fun e => by have := HS.out.2.1.ge e; have := HS.out.2.2.2.2.1; omega)
    rw [times_snoc, ← hxn.out]
    refine behind_any X rb rcap fold _ t0 B 55 #[.pointer (some ⟨pb, 0, none⟩)] (inSpans sp.data.toList) wr (enters_of Tryz.func55 (by kernel_rfl) rfl) ⟨hC3.1, hC3.2.1, hC3.2.2.2⟩ (fun e => by have := h1.ge e; have := HS.out.2.2.2.2.1; omega) h1 (by have := HS.out.2.2.2.2.2; have := K2.out.1.size; have := h2.size; omega) (by omega) hx (fun a ha => by have := hgd.2 a ha; omega) (fun W hW x => ?_)
    refine spans_any x sp m2 SE.out.1 SE.out.2 pb W ?_
    have hb0 : W3.heap[pb]? = some (.cells #[.string sp] 9 (0, 0)) := K2.out.2.2
    have hne : v.ownBlock ≠ some pb := own_not ST.out.1 hb0 (fun cs e => by cases e)
    have hb1 := (h2.block pb (Array.getElem?_eq_some_iff.1 hb0).1 (fun e => hne e.symm)).trans hb0
    have hb2 := (hW.block pb (Array.getElem?_eq_some_iff.1 hb1).1 (fun e => hne (by rw [← h3]; exact e.symm))).trans hb1
    exact cell_of_heap hb2 rfl
  have HB : Hid (∀ wr, W3.grownBy wr v.ownBlock → wr.cell? ⟨w.heap.size, 0, none⟩ = some (.slice (some ⟨rb, 0, none⟩) xn rcap) ∧ wr.cell? ⟨w.heap.size, 1, none⟩ = some (.bool fold)) := fun wr h => by
    have hne : v.ownBlock ≠ some w.heap.size := own_not ST.out.1 K2.out.2.1 (fun cs e => by cases e)
    have hb1 := (h.block _ (Array.getElem?_eq_some_iff.1 K2.out.2.1).1 (fun e => hne e.symm)).trans K2.out.2.1
    exact ⟨cell_of_heap hb1 rfl, cell_of_heap hb1 rfl⟩
  clear K1 s2 l2 l1
  go_loopg [1, 37] sz (fun g u t wr => ∃ (k : Nat) (t0 : Value), t0 = u ∧ t = .int .i64 k ∧ g + k = sz ∧ Hid (Nats wr B t0 (timesL (inSpans sp.data.toList) X k L) ∧ W3.grownBy wr v.ownBlock ∧ t0.ownBlock = v.ownBlock))
  case atStart => exact ⟨0, _, rfl, rfl, rfl, ST.out.1, World.grownBy.refl _ _, rfl⟩
  case round =>
    obtain ⟨k, t0, rfl, rfl, hgk, hA⟩ := hrel
    have z0 : (0 : Int) ≤ (k : Int) := by omega
    obtain ⟨c0, c1⟩ := HB.out wr hA.out.2.1
    by_cases hlt : k < sz
    · have z1 : (k : Int) < (sz : Int) := by omega
      have D := VN.out k t0 wr hA.out.1 hA.out.2.1 hA.out.2.2
      go_wp2_with fail
      (with_reducible refine D.mono ?_); rintro e w4 ⟨v4, rfl, n1, n2, n3⟩
      have NX : Hid (Nats w4 B v4 (timesL (inSpans sp.data.toList) X (k + 1) L) ∧ W3.grownBy w4 v.ownBlock ∧ v4.ownBlock = v.ownBlock) := ⟨n1, hA.out.2.1.trans (by rw [← hA.out.2.2]; exact n2), n3.trans hA.out.2.2⟩
      clear n1 n2 n3 D c0 c1 hA
      go_wp2_with fail
      go_roundg (gk - 1)
      case measure => omega
      case rel => exact ⟨k + 1, v4, rfl, by go_num, by omega, NX⟩
    · obtain rfl : k = sz := by omega
      have z1 : ¬ (k : Int) < (k : Int) := by omega
      have V : Hid (StepOut B v RR w (.returned t0) wr) := by
        obtain ⟨a1, a2, a3⟩ := hA.out
        rw [hRR.out] at a1
        refine ⟨t0, rfl, a1, ⟨a2.os.trans ST.out.2.os, a2.tape.trans ST.out.2.tape, a2.output.trans ST.out.2.output, Nat.le_trans ST.out.2.size a2.size, fun i hi hne => (a2.block i (Nat.lt_of_lt_of_le hi ST.out.2.size) hne).trans (ST.out.2.block i hi)⟩, .inl a3⟩
      clear hA c0 c1
      go_wp2_with fail
      go_ret
      exact V.out
end Go.Proofs.YtoilalffhmjhdaaGreatDoor.subst
