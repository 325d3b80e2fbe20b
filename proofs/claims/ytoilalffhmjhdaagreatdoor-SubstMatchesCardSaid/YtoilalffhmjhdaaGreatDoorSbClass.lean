/- classOf, Own, valuesOf, known. -/
import Derived.Test.YtoilalffhmjhdaaGreatDoorSbSmall
import Derived.Deep.MidRow
import Derived.Deep.QuietTactic
import Derived.BigQuiet
set_option linter.unusedSimpArgs false
set_option linter.unusedVariables false
namespace Go.Proofs.YtoilalffhmjhdaaGreatDoor.subst
open Go.RowKit Go.Proofs.YtoilalffhmjhdaaGreatDoor.errs Go.Proofs.YtoilalffhmjhdaaGreatDoor.rows

def classV : Option Cl → Value
  | none => .tuple #[.agg #[.string ⟨#[]⟩, .string ⟨#[]⟩, .int .i64 0], .bool false]
  | some c => .tuple #[.agg #[.string (T c.name), .string (T c.spans), .int .i64 (c.size : Int)], .bool true]
theorem size_cls : (Tryz.prog.info? 113).map (·.size) = some clCells.length := by kernel_rfl
theorem load_cls {ops : Array Oper} {rest : List Oper} {op : Oper} {a : Act} {w : World} {Q : Exit → Act → World → Prop} (hgd : op.guard = none) (x : Operand) (ho : op.op = .load 113 x)
    (hx : a.eval x = .pointer (some ⟨1, 0, none⟩)) (hc : Clss w) (h : wpList Tryz.prog ops Q rest (a.put op.dst (.agg clCells.toArray)) w) : wpList Tryz.prog ops Q (op :: rest) a w :=
  wpList_load_mid hgd 113 x ho 1 0 hx clCells _ (fun i v hi => by rw [Nat.zero_add]; exact hc i v hi) Tryz.underlying113 rfl size_cls h
theorem text_eq (a b : List UInt8) : ((T a).toList == (T b).toList) = decide (a = b) := by
  rw [ByteArray.toList_eq, ByteArray.toList_eq]
  show (a == b) = decide (a = b)
  exact Bool.eq_iff_iff.2 (by rw [beq_iff_eq, decide_eq_true_eq])
def clAt (k : Nat) : Cl := clTab.getD k noCl
theorem idx_cls : ∀ k : Nat, k < 8 → ∀ w, (Instr.index 113 (.agg clCells.toArray) (.int .i64 (k : Int))).run Tryz.prog w = .ok (.agg #[.string (T (clAt k).name), .string (T (clAt k).spans), .int .i64 ((clAt k).size : Int)]) w
  | 0, _, w => by kernel_rfl
  | 1, _, w => by kernel_rfl
  | 2, _, w => by kernel_rfl
  | 3, _, w => by kernel_rfl
  | 4, _, w => by kernel_rfl
  | 5, _, w => by kernel_rfl
  | 6, _, w => by kernel_rfl
  | 7, _, w => by kernel_rfl
  | k + 8, h, w => absurd h (by omega)
theorem find_from (nm : List UInt8) : ∀ (l : List Cl) (k : Nat), (∀ j, j < k → (l.getD j noCl).name ≠ nm) → k < l.length → (l.getD k noCl).name = nm → l.find? (fun c => decide (c.name = nm)) = some (l.getD k noCl)
  | [], k, _, h, _ => by cases h
  | c :: l, 0, _, _, h => by
    have h : c.name = nm := h
    rw [List.find?_cons_of_pos (by simpa using h)]; rfl
  | c :: l, k + 1, h0, hk, h => by
    have h1 : c.name ≠ nm := h0 0 (by omega)
    rw [List.find?_cons_of_neg (by simpa using h1)]
    exact find_from nm l k (fun j hj => h0 (j + 1) (by omega)) (by simpa using hk) h
theorem find_none (nm : List UInt8) : ∀ (l : List Cl), (∀ j, j < l.length → (l.getD j noCl).name ≠ nm) → l.find? (fun c => decide (c.name = nm)) = none
  | [], _ => rfl
  | c :: l, h => by
    have h1 : c.name ≠ nm := h 0 (by simp)
    rw [List.find?_cons_of_neg (by simpa using h1)]
    exact find_none nm l (fun j hj => h (j + 1) (by simpa using hj))
set_option maxRecDepth 100000 in
set_option maxHeartbeats 4000000 in
theorem class_any (nm : List UInt8) (w : World) (hc : Clss w) :
    Calls Tryz.prog 42 #[.string (T nm)] w fun e w' => e = .returned (classV (classOf nm)) ∧ Below w.heap.size w w' := by
  have HC : Aside (Clss w) := hc
  have HC2 : Aside (Clss (w.alloc (.cells #[.string ⟨#[]⟩, .string ⟨#[]⟩, .int .i64 0] 82))) := hc.below ((Below.refl _ _).alloc (Nat.le_refl _) _) (Nat.le_refl _)
  clear hc
  go_enter Tryz.func42, Tryz.ntmps42
  go_wp2_with (refine load_cls rfl _ rfl rfl HC2.out ?_)
  have H0 : Aside ((w.alloc (.cells #[.string ⟨#[]⟩, .string ⟨#[]⟩, .int .i64 0] 82)).heap[w.heap.size]? = some (.cells #[.string ⟨#[]⟩, .string ⟨#[]⟩, .int .i64 0] 82 (0, 0)) ∧ Below w.heap.size w (w.alloc (.cells #[.string ⟨#[]⟩, .string ⟨#[]⟩, .int .i64 0] 82))) := ⟨heap_alloc_new w _, (Below.refl _ _).alloc (Nat.le_refl _) _⟩
  have IX := Lib.hid idx_cls
  clear HC HC2
  go_loopg [7] 8 (fun g t wr => ∃ k : Nat, t = .int .i64 k ∧ g + k = 8 ∧ Aside ((∀ j, j < k → (clTab.getD j noCl).name ≠ nm) ∧ wr.heap[w.heap.size]? = some (.cells #[.string ⟨#[]⟩, .string ⟨#[]⟩, .int .i64 0] 82 (0, 0)) ∧ Below w.heap.size w wr))
  case atStart => exact ⟨0, rfl, rfl, fun j hj => absurd hj (Nat.not_lt_zero _), H0.out.1, H0.out.2⟩
  case round =>
    obtain ⟨k, rfl, hg, hA⟩ := hrel
    obtain ⟨a1, a2, a3⟩ := hA.out
    have y0 : (0 : Int) ≤ (k : Int) := by omega
    have r0 : wr.cell? ⟨w.heap.size, 0, none⟩ = some (.string ⟨#[]⟩) := by simp [World.cell?, a2]
    have r1 : wr.cell? ⟨w.heap.size, 1, none⟩ = some (.string ⟨#[]⟩) := by simp [World.cell?, a2]
    have r2 : wr.cell? ⟨w.heap.size, 2, none⟩ = some (.int .i64 0) := by simp [World.cell?, a2]
    have f0 : wr.frozen? ⟨w.heap.size, 0, none⟩ = false := by simp [World.frozen?, a2]
    have f1 : wr.frozen? ⟨w.heap.size, 1, none⟩ = false := by simp [World.frozen?, a2]
    have f2 : wr.frozen? ⟨w.heap.size, 2, none⟩ = false := by simp [World.frozen?, a2]
    have hlw : w.heap.size < wr.heap.size := (Array.getElem?_eq_some_iff.1 a2).1
    by_cases hlt : k < 8
    · have y1 : (k : Int) < 8 := by omega
      have ix := IX.out k hlt
      by_cases e : (clAt k).name = nm
      · have V : Aside (classOf nm = some (clAt k)) := find_from nm clTab k a1 hlt e
        have e1 : ((T (clAt k).name).toList == (T nm).toList) = true := by rw [text_eq]; exact decide_eq_true e
        have A3 := Lib.hid a3
        clear a1 a2 a3 hA e
        generalize clAt k = c at *
        go_wp2_with fail
        refine bodyPost_ret (v := .tuple #[.agg #[.string (T c.name), .string (T c.spans), .int .i64 (c.size : Int)], .bool true]) (by simp [results, Tryz.results42, go_sem, r0, r1, r2, hlw]) rfl ⟨by rw [V.out]; rfl, ?_⟩
        exact (((A3.out.setCell (p := ⟨w.heap.size, 0, none⟩) (Nat.le_refl _) _).setCell (p := ⟨w.heap.size, 1, none⟩) (Nat.le_refl _) _).setCell (p := ⟨w.heap.size, 2, none⟩) (Nat.le_refl _) _).alloc (by simp [World.setCell]; omega) _
      · have e1 : ((T (clAt k).name).toList == (T nm).toList) = false := by rw [text_eq]; exact decide_eq_false e
        have NX : Aside ((∀ j, j < k + 1 → (clTab.getD j noCl).name ≠ nm) ∧ (wr.alloc (.cells #[.string (T (clAt k).name), .string (T (clAt k).spans), .int .i64 ((clAt k).size : Int)] 82)).heap[w.heap.size]? = some (.cells #[.string ⟨#[]⟩, .string ⟨#[]⟩, .int .i64 0] 82 (0, 0)) ∧ Below w.heap.size w (wr.alloc (.cells #[.string (T (clAt k).name), .string (T (clAt k).spans), .int .i64 ((clAt k).size : Int)] 82))) := by
          refine ⟨fun j hj => ?_, (Below.heap_alloc wr _ _ hlw).trans a2, a3.alloc a3.size _⟩
          rcases (show j < k ∨ j = k by omega) with h | rfl
          · exact a1 j h
          · exact e
        clear a1 a2 a3 hA e
        generalize clAt k = c at *
        go_wp2_with fail
        go_roundg (gk - 1)
        case measure => omega
        case rel => exact ⟨k + 1, by go_num, by omega, NX.out⟩
    · obtain rfl : k = 8 := by omega
      have V : Aside (classOf nm = none) := find_none nm clTab a1
      have A3 := Lib.hid a3
      clear a1 a2 a3 hA
      go_wp2_with fail
      refine bodyPost_ret (v := .tuple #[.agg #[.string ⟨#[]⟩, .string ⟨#[]⟩, .int .i64 0], .bool false]) (by simp [results, Tryz.results42, go_sem, r0, r1, r2, hlw]) rfl ⟨by rw [V.out]; rfl, ?_⟩
      exact ((A3.out.setCell (p := ⟨w.heap.size, 0, none⟩) (Nat.le_refl _) _).setCell (p := ⟨w.heap.size, 1, none⟩) (Nat.le_refl _) _).setCell (p := ⟨w.heap.size, 2, none⟩) (Nat.le_refl _) _
def isOwn (nm : List UInt8) : Bool := (classOf nm).isSome
set_option maxRecDepth 100000 in
set_option maxHeartbeats 1000000 in
theorem own_any (nm : List UInt8) (w : World) (hc : Clss w) :
    Calls Tryz.prog 20 #[.string (T nm)] w fun e w' => e = .returned (.bool (isOwn nm)) ∧ Below w.heap.size w w' := by
  have C := class_any nm w hc
  unfold isOwn
  cases h : classOf nm with
  | none =>
    rw [h] at C
    have C : Calls Tryz.prog 42 #[.string (T nm)] w fun e w' => e = .returned (.tuple #[.agg #[.string ⟨#[]⟩, .string ⟨#[]⟩, .int .i64 0], .bool false]) ∧ Below w.heap.size w w' := C
    clear h hc
    go_enter Tryz.func20, Tryz.ntmps20
    go_wp2_with fail
    refine C.mono ?_; rintro e w1 ⟨rfl, hb⟩
    have K : Aside (∀ o, Below w.heap.size w (w1.alloc o)) := fun o => hb.alloc hb.size o
    clear hb
    go_wp2_with fail
    go_ret
    exact ⟨rfl, K.out _⟩
  | some c =>
    rw [h] at C
    have C : Calls Tryz.prog 42 #[.string (T nm)] w fun e w' => e = .returned (.tuple #[.agg #[.string (T c.name), .string (T c.spans), .int .i64 (c.size : Int)], .bool true]) ∧ Below w.heap.size w w' := C
    clear h hc
    go_enter Tryz.func20, Tryz.ntmps20
    go_wp2_with fail
    refine C.mono ?_; rintro e w1 ⟨rfl, hb⟩
    have K : Aside (∀ o, Below w.heap.size w (w1.alloc o)) := fun o => hb.alloc hb.size o
    clear hb
    go_wp2_with fail
    go_ret
    exact ⟨rfl, K.out _⟩

def isNamed (nm : ByteArray) (x : Vr) : Bool := x.name.toList == nm.toList
theorem named_iff (nm : ByteArray) (x : Vr) : isNamed nm x = decide (x.name = nm) := by
  unfold isNamed
  rw [ByteArray.toList_eq, ByteArray.toList_eq]
  refine Bool.eq_iff_iff.2 ?_
  rw [beq_iff_eq, decide_eq_true_eq]
  exact ⟨fun h => ByteArray.ext (Array.toList_inj.1 h), fun h => by rw [h]⟩
def findVr (l : List Vr) (nm : ByteArray) : Option Vr := l.find? (isNamed nm)
theorem vr_from (f : Vr → Bool) : ∀ (l : List Vr) (k : Nat), (∀ j, j < k → f (l.getD j noVr) = false) → k < l.length → f (l.getD k noVr) = true → l.find? f = some (l.getD k noVr)
  | [], k, _, h, _ => by cases h
  | c :: l, 0, _, _, h => by
    have h : f c = true := h
    rw [List.find?_cons_of_pos h]; rfl
  | c :: l, k + 1, h0, hk, h => by
    have h1 : f c = false := h0 0 (by omega)
    rw [List.find?_cons_of_neg (by rw [h1]; decide)]
    exact vr_from f l k (fun j hj => h0 (j + 1) (by omega)) (by simpa using hk) h
theorem vr_none (f : Vr → Bool) : ∀ (l : List Vr), (∀ j, j < l.length → f (l.getD j noVr) = false) → l.find? f = none
  | [], _ => rfl
  | c :: l, h => by
    have h1 : f c = false := h 0 (by simp)
    rw [List.find?_cons_of_neg (by rw [h1]; decide)]
    exact vr_none f l (fun j hj => h (j + 1) (by simpa using hj))
theorem names_any (x : Vr) (sv : Value) (nm : ByteArray) (b : Nat) (w : World) (h : w.cell? ⟨b, 0, none⟩ = some (.string nm)) :
    Calls Tryz.prog 73 #[.agg #[.string x.name, sv], .pointer (some ⟨b, 0, none⟩)] w fun e w' => e = .returned (.bool (isNamed nm x)) ∧ Below w.heap.size w w' := by
  have hlt : b < w.heap.size := lt_of_cell h
  unfold isNamed
  go_enter Tryz.func73, Tryz.ntmps73
  go_wp2_with fail
  go_ret
  exact ⟨rfl, (Below.refl _ _).alloc (Nat.le_refl _) _⟩
def FIdx (l : List Vr) (nm : ByteArray) (i : Int) : Prop := (i = -1 ∧ findVr l nm = none) ∨ ∃ k : Nat, k < l.length ∧ i = k ∧ findVr l nm = some (l.getD k noVr)
def FIdxOut (l : List Vr) (nm : ByteArray) (w : World) (e : Ending) (w' : World) : Prop := ∃ i : Int, e = .returned (.int .i64 i) ∧ FIdx l nm i ∧ Below w.heap.size w w'
set_option maxRecDepth 100000 in
set_option maxHeartbeats 1000000 in
theorem indexf_any (l : List Vr) (v : Value) (nm : ByteArray) (b : Nat) (w : World) (h : VarsIn w v l) (hn : l.length ≤ 1000001) (hc : w.cell? ⟨b, 0, none⟩ = some (.string nm)) :
    Calls Tryz.prog 72 #[v, .func (.func 73) #[] #[.pointer (some ⟨b, 0, none⟩)]] w fun e w' => FIdxOut l nm w e w' := by
  obtain ⟨a, cap, rfl⟩ := h.form
  have HV := Lib.hid h
  have h2 := h.at.2.1
  have h3 := h.at.2.2.1
  have HC := Lib.hid hc
  have NA := Lib.hid names_any
  clear h hc
  obtain ⟨n, hln⟩ : ∃ n, Hid (l.length = n) := ⟨_, rfl⟩
  rw [hln.out] at hn h2 ⊢
  go_enter Tryz.func72, Tryz.ntmps72
  go_wp2_with fail
  go_loopg [8] n (fun g t wr => ∃ k : Nat, t = .int .i64 k ∧ g + k = n ∧ Aside ((∀ j, j < k → isNamed nm (l.getD j noVr) = false) ∧ Below w.heap.size w wr))
  case atStart => exact ⟨0, rfl, rfl, fun j hj => absurd hj (Nat.not_lt_zero _), Below.refl _ _⟩
  case round =>
    obtain ⟨k, rfl, hg, hA⟩ := hrel
    by_cases hlt : k < n
    · have hV := HV.out.below hA.out.2
      rw [hln.out] at hV
      obtain ⟨bb, o, rfl, c0, sv, c1, c2⟩ := hV.at.2.2.2 k hlt
      have y0 : (0 : Int) ≤ (k : Int) := by omega
      have y1 : (k : Int) < (n : Int) := by omega
      have C := NA.out (l.getD k noVr) sv nm b wr ((hA.out.2.cell (p := ⟨b, 0, none⟩) (lt_of_cell HC.out)).trans HC.out)
      have A2 := Lib.hid hA.out
      clear hV c2 hA
      generalize hx : l.getD k noVr = x at *
      have HX := Lib.hid hx
      clear hx
      cases e : isNamed nm x with
      | true =>
        rw [e] at C
        have V : Aside (FIdx l nm k) := .inr ⟨k, by rw [hln.out]; exact hlt, rfl, vr_from _ l k A2.out.1 (by rw [hln.out]; exact hlt) (by rw [HX.out]; exact e)⟩
        clear e
        go_wp2_with fail
        refine C.mono ?_; rintro e w2 ⟨rfl, hb⟩
        have KB : Aside (Below w.heap.size w w2) := A2.out.2.trans (hb.mono A2.out.2.size)
        clear hb C
        go_wp2_with fail
        go_ret
        exact ⟨k, rfl, V.out, KB.out⟩
      | false =>
        rw [e] at C
        have e2 := Lib.hid e
        clear e
        go_wp2_with fail
        refine C.mono ?_; rintro e w2 ⟨rfl, hb⟩
        have KB : Aside ((∀ j, j < k + 1 → isNamed nm (l.getD j noVr) = false) ∧ Below w.heap.size w w2) := ⟨fun j hj => by
          rcases (show j < k ∨ j = k by omega) with h | rfl
          · exact A2.out.1 j h
          · rw [HX.out]; exact e2.out, A2.out.2.trans (hb.mono A2.out.2.size)⟩
        clear hb C
        go_wp2_with fail
        go_roundg (gk - 1)
        case measure => omega
        case rel => exact ⟨k + 1, by go_num, by omega, KB.out⟩
    · obtain rfl : k = n := by omega
      have y1 : ¬ (k : Int) < (k : Int) := by omega
      have V : Aside (FIdx l nm (-1)) := .inl ⟨rfl, vr_none _ l (fun j hj => hA.out.1 j (by rw [hln.out] at hj; exact hj))⟩
      go_wp2_with fail
      go_ret
      exact ⟨-1, rfl, V.out, hA.out.2⟩

/-- What valuesOf answers. -/
def ValsOut (o : Option Vr) (w : World) (e : Ending) (w' : World) : Prop :=
  match o with
  | none => e = .returned (.tuple #[.slice none 0 0, .bool false]) ∧ Below w.heap.size w w'
  | some x => ∃ sv, e = .returned (.tuple #[sv, .bool true]) ∧ Aside (StrsIn w sv x.vals ∧ Below w.heap.size w w')
set_option maxRecDepth 100000 in
set_option maxHeartbeats 1000000 in
theorem values_of (l : List Vr) (v : Value) (nm : ByteArray) (w : World) (h : VarsIn w v l) (hn : l.length ≤ 1000001) :
    Calls Tryz.prog 46 #[.string nm, v] w fun e w' => ValsOut (findVr l nm) w e w' := by
  obtain ⟨W, hW⟩ : ∃ W, w.alloc (.cells #[.string nm] 9) = W := ⟨_, rfl⟩
  have hB : Keeps w W := by rw [← hW]; exact (Below.refl _ _).alloc (Nat.le_refl _) _
  have C := indexf_any l v nm w.heap.size W (h.below hB) hn (by rw [← hW, World.cell?_alloc_at _ _ _ _ rfl]; rfl)
  have HW := Lib.hid hW
  have HB := Lib.hid hB
  have HV := Lib.hid h
  obtain ⟨a, cap, rfl⟩ := h.form
  have h2 := h.at.2.1
  have h3 := h.at.2.2.1
  obtain ⟨n, hln⟩ : ∃ n, Hid (l.length = n) := ⟨_, rfl⟩
  rw [hln.out] at hn h2 C ⊢
  obtain ⟨res, hres⟩ : ∃ res, Hid (findVr l nm = res) := ⟨_, rfl⟩
  rw [hres.out]
  clear h hW hB
  go_enter Tryz.func46, Tryz.ntmps46
  go_wp2_with fail
  rw [HW.out]
  refine C.mono ?_; rintro e w2 ⟨i, rfl, hi, hb⟩
  have KB : Hid (Below w.heap.size w w2) := HB.out.trans (hb.mono HB.out.size)
  clear hb C
  rcases hi with ⟨rfl, hf⟩ | ⟨k, hk, rfl, hf⟩
  · have R : Hid (res = none) := hres.out.symm.trans hf
    clear hf
    go_wp2_with fail
    go_ret2
    rw [R.out]
    exact ⟨rfl, KB.out⟩
  · have R : Hid (res = some (l.getD k noVr)) := hres.out.symm.trans hf
    rw [hln.out] at hk
    have y0 : (0 : Int) ≤ (k : Int) := by omega
    have y1 : (k : Int) < (n : Int) := by omega
    have y2 : ¬ (k : Int) < 0 := by omega
    have hV := HV.out.below KB.out
    rw [hln.out] at hV
    obtain ⟨bb, o, rfl, c0, sv, c1, c2⟩ := hV.at.2.2.2 k hk
    have V : Aside (StrsIn w sv (l.getD k noVr).vals) := by
      have hV0 := HV.out
      rw [hln.out] at hV0
      obtain ⟨b', o', e', d0, sv', d1, d2⟩ := hV0.at.2.2.2 k hk
      obtain ⟨rfl, rfl⟩ : bb = b' ∧ o = o' := by simpa using e'
      have := (KB.out.cell (p := ⟨bb, o + k * 2 + 1, none⟩) (lt_of_cell d1)).trans d1
      rw [c1] at this
      cases this
      exact d2
    clear hV c2 hf
    go_wp2_with fail
    go_ret2
    rw [R.out]
    exact ⟨sv, rfl, V.out, KB.out⟩

def knownV (l : List Vr) (nm : List UInt8) : Bool := (findVr l (T nm)).isSome || isOwn nm
set_option maxRecDepth 100000 in
set_option maxHeartbeats 1000000 in
theorem known_any (l : List Vr) (v : Value) (nm : List UInt8) (w : World) (h : VarsIn w v l) (hn : l.length ≤ 1000001) (hc : Clss w) :
    Calls Tryz.prog 27 #[.string (T nm), v] w fun e w' => e = .returned (.bool (knownV l nm)) ∧ Below w.heap.size w w' := by
  have C := values_of l v (T nm) w h hn
  have O := fun w' (hb : Keeps w w') => own_any nm w' (hc.below hb (Nat.le_refl _))
  have HO := Lib.hid O
  unfold knownV
  clear h hn hc O
  cases hf : findVr l (T nm) with
  | none =>
    rw [hf] at C
    have C : Calls Tryz.prog 46 #[.string (T nm), v] w fun e w' => e = .returned (.tuple #[.slice none 0 0, .bool false]) ∧ Below w.heap.size w w' := C
    clear hf
    generalize isOwn nm = q at *
    go_enter Tryz.func27, Tryz.ntmps27
    go_wp2_with fail
    refine C.mono ?_; rintro e w1 ⟨rfl, hb⟩
    have O := HO.out w1 hb
    have KB : Hid (Below w.heap.size w w1) := hb
    clear hb C
    go_wp2_with fail
    refine O.mono ?_; rintro e w2 ⟨rfl, hb⟩
    have KC : Hid (Below w.heap.size w w2) := KB.out.trans (hb.mono KB.out.size)
    clear hb O
    go_wp2_with fail
    go_ret
    exact ⟨rfl, KC.out⟩
  | some x =>
    rw [hf] at C
    have C : Calls Tryz.prog 46 #[.string (T nm), v] w fun e w' => ∃ sv, e = .returned (.tuple #[sv, .bool true]) ∧ Aside (StrsIn w sv x.vals ∧ Below w.heap.size w w') := C
    clear hf
    go_enter Tryz.func27, Tryz.ntmps27
    go_wp2_with fail
    refine C.mono ?_; rintro e w1 ⟨sv, rfl, hb⟩
    clear C
    go_wp2_with fail
    go_ret
    exact ⟨rfl, hb.out.2⟩
end Go.Proofs.YtoilalffhmjhdaaGreatDoor.subst
