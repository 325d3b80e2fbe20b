/- wire.New, Len, copied; the tests that a call hands to takeOut. -/
import Derived.Test.YtelofhplpeeplaaDoorWrOut
import Derived.Test.YtelofhplpeeplaaDoorShelf
set_option linter.unusedSimpArgs false
set_option linter.unusedVariables false
namespace Go.Proofs.YtelofhplpeeplaaDoor.wire
open Go.RowKit Go.Proofs.YtelofhplpeeplaaDoor.errs

theorem clone_str (s : ByteArray) (hs : s.size ≤ 281474976710656) (w : World) : Calls Tryd.prog 48 #[.string s] w fun e w' => e = .returned (.string s) ∧ Below w.heap.size w w' := by
  have C := Tryd.stringslite_Clone s w hs
  go_enter Tryd.func48, Tryd.ntmps48
  go_wp2_with fail
  refine C.mono ?_; rintro e w1 ⟨rfl, hb⟩
  have K := Lib.hid hb
  clear hb C
  go_wp2_with fail
  go_ret
  exact ⟨rfl, K.out⟩

abbrev zero6 : Array Value := #[.int .u64 0, .string ⟨#[]⟩, .bool false, .int .i64 0, .string ⟨#[]⟩, .string ⟨#[]⟩]
/-- Two blocks of a call: what came in, and what goes out. -/
def Two (w0 w : World) (b : Nat) (x : Array Value) : Prop := b = w0.heap.size ∧ Blk w b x 45 ∧ Blk w (b + 1) zero6 45 ∧ Below w0.heap.size w0 w
theorem Two.on {w0 w w1 : World} {b : Nat} {x : Array Value} (h : Two w0 w b x) (hb : Below w.heap.size w w1) : Two w0 w1 b x :=
  ⟨h.1, h.2.1.below hb h.2.1.lt, h.2.2.1.below hb h.2.2.1.lt, h.2.2.2.trans (hb.mono h.2.2.2.size)⟩
theorem Two.set {w0 w : World} {b : Nat} {x : Array Value} (h : Two w0 w b x) (i : Nat) (u : Value) (hx : x.setIfInBounds i u = x) : Two w0 (w.setCell ⟨b, i, none⟩ u) b x :=
  ⟨h.1, hx ▸ h.2.1.set i u, h.2.2.1.other _ (by show b + 1 ≠ b; omega) u, h.2.2.2.setCell (by show _ ≤ b; rw [h.1]; exact Nat.le_refl _) u⟩
theorem two_new (w : World) (x : Array Value) : Two w ((w.alloc (.cells x 45)).alloc (.cells zero6 45)) w.heap.size x :=
  ⟨rfl, (blk_new w x _).alloc _, by have := blk_new (w.alloc (.cells x 45)) zero6 45; rw [show (w.alloc (.cells x 45)).heap.size = w.heap.size + 1 by simp] at this; exact this, ((Below.refl _ w).alloc (Nat.le_refl _) _).alloc (by simp) _⟩

set_option maxRecDepth 100000 in
set_option maxHeartbeats 2000000 in
theorem copied_any (x : Rq) (h1 : x.app.size ≤ 281474976710656) (h2 : x.text.size ≤ 281474976710656) (h3 : x.url.size ≤ 281474976710656) (w : World) :
    Calls Tryd.prog 36 #[.agg (arr6 x)] w fun e w' => e = .returned (.agg (arr6 x)) ∧ Below w.heap.size w w' := by
  have C1 := fun w => clone_str x.app h1 w
  have C2 := fun w => clone_str x.text h2 w
  have C3 := fun w => clone_str x.url h3 w
  obtain ⟨i, a, p, k, t, u, s⟩ := x
  simp only at C1 C2 C3
  clear h1 h2 h3
  go_enter Tryd.func36, Tryd.ntmps36
  go_wp2_with fail
  have T0 := Lib.hid (two_new w #[.int .u64 (i : Int), .string a, .bool p, .int .i64 k, .string t, .string u])
  generalize (w.alloc (.cells #[.int .u64 (i : Int), .string a, .bool p, .int .i64 k, .string t, .string u] 45)).alloc (.cells zero6 45) = W0 at *
  generalize w.heap.size = b at *
  refine (C1 _).mono ?_; rintro e w1 ⟨rfl, hb⟩
  have T1 := T0.out.on hb
  have c0 := T1.2.1.get 0
  have c1 := T1.2.1.get 1
  have c2 := T1.2.1.get 2
  have c3 := T1.2.1.get 3
  have c4 := T1.2.1.get 4
  have c5 := T1.2.1.get 5
  have f1 := T1.2.1.frz 1
  simp only [List.getElem?_toArray, List.getElem?_cons_zero, List.getElem?_cons_succ] at c0 c1 c2 c3 c4 c5
  have T2 := Lib.hid (T1.set 1 (.string a) rfl)
  clear hb T1 T0 C1
  go_wp2_with fail
  generalize w1.setCell ⟨b, 1, none⟩ (.string a) = W1 at *
  clear c0 c1 c2 c3 c4 c5 f1
  refine (C2 _).mono ?_; rintro e w2 ⟨rfl, hb⟩
  have T1 := T2.out.on hb
  have c4 := T1.2.1.get 4
  have f4 := T1.2.1.frz 4
  have c5 := T1.2.1.get 5
  simp only [List.getElem?_toArray, List.getElem?_cons_zero, List.getElem?_cons_succ] at c4 c5
  have T3 := Lib.hid (T1.set 4 (.string t) rfl)
  clear hb T1 T2 C2
  go_wp2_with fail
  generalize w2.setCell ⟨b, 4, none⟩ (.string t) = W2 at *
  clear c4 f4 c5
  refine (C3 _).mono ?_; rintro e w3 ⟨rfl, hb⟩
  have T1 := T3.out.on hb
  have c5 := T1.2.1.get 5
  have f5 := T1.2.1.frz 5
  simp only [List.getElem?_toArray, List.getElem?_cons_zero, List.getElem?_cons_succ] at c5
  have T4 := T1.set 5 (.string u) rfl
  have c0 := T1.2.1.get 0
  have c1 := T1.2.1.get 1
  have c2 := T1.2.1.get 2
  have c3 := T1.2.1.get 3
  have c4 := T1.2.1.get 4
  have d0 := T1.2.2.1.get 0
  have d1 := T1.2.2.1.get 1
  have d2 := T1.2.2.1.get 2
  have d3 := T1.2.2.1.get 3
  have d4 := T1.2.2.1.get 4
  have d5 := T1.2.2.1.get 5
  have g0 := T1.2.2.1.frz 0
  have g1 := T1.2.2.1.frz 1
  have g2 := T1.2.2.1.frz 2
  have g3 := T1.2.2.1.frz 3
  have g4 := T1.2.2.1.frz 4
  have g5 := T1.2.2.1.frz 5
  simp only [List.getElem?_toArray, List.getElem?_cons_zero, List.getElem?_cons_succ] at c0 c1 c2 c3 c4 d0 d1 d2 d3 d4 d5
  have HB : Hid (w.heap.size ≤ b + 1 ∧ Below w.heap.size w (w3.setCell ⟨b, 5, none⟩ (.string u))) := ⟨by have := T4.1; omega, T4.2.2.2⟩
  clear hb T1 T3 T4 C3
  go_wp2_with fail
  refine bodyPost_ret (v := .agg #[.int .u64 (i : Int), .string a, .bool p, .int .i64 k, .string t, .string u]) (by simp [results, Tryd.results36, go_sem, d0, d1, d2, d3, d4, d5]) rfl ⟨rfl, ?_⟩
  exact (((((HB.out.2.setCell HB.out.1 _).setCell HB.out.1 _).setCell HB.out.1 _).setCell HB.out.1 _).setCell HB.out.1 _).setCell HB.out.1 _
end Go.Proofs.YtelofhplpeeplaaDoor.wire
/- AppleURL and the document's: one text. -/
set_option linter.unusedSimpArgs false
set_option linter.unusedVariables false
namespace Go.Proofs.YtelofhplpeeplaaDoor.wire
open Go.RowKit Go.Proofs.YtelofhplpeeplaaDoor.errs

/-- A host as it stands in a URL. -/
def hostT (k : Int) (t : ByteArray) : ByteArray := if k = 3 then (⟨#[91]⟩ ++ t) ++ ⟨#[93]⟩ else t
theorem hostT_size (k : Int) (t : ByteArray) : (hostT k t).size ≤ t.size + 2 := by
  unfold hostT
  split
  · rw [ByteArray.size_append, ByteArray.size_append]
    show 1 + _ + 1 ≤ _
    omega
  · omega
def urlT (k : Int) (t : ByteArray) : ByteArray := (⟨#[104, 116, 116, 112, 115, 58, 47, 47]⟩ ++ hostT k t) ++ ⟨#[47, 46, 119, 101, 108, 108, 45, 107, 110, 111, 119, 110, 47, 97, 112, 112, 108, 101, 45, 97, 112, 112, 45, 115, 105, 116, 101, 45, 97, 115, 115, 111, 99, 105, 97, 116, 105, 111, 110]⟩

set_option maxRecDepth 100000 in
theorem htext_any (k : Int) (t : ByteArray) (ht : t.size ≤ 300) (w : World) :
    Calls Tryd.prog 37 #[.agg #[.int .i64 k, .string t]] w fun e w' => e = .returned (.string (hostT k t)) ∧ Below w.heap.size w w' := by
  have C := fun w => clone_str t (by omega) w
  unfold hostT
  have K := Lib.hid ((Below.refl w.heap.size w).alloc (Nat.le_refl _) (.cells #[.int .i64 k, .string t] 43))
  by_cases h : k = 3
  · subst h
    rw [if_pos rfl]
    clear C
    go_enter Tryd.func37, Tryd.ntmps37
    go_wp2_with fail
    go_ret
    exact ⟨rfl, K.out⟩
  · rw [if_neg h]
    have y : (k == (3 : Int)) = false := beq_eq_false_iff_ne.2 h
    go_enter Tryd.func37, Tryd.ntmps37
    go_wp2_with fail
    refine (C _).mono ?_; rintro e w1 ⟨rfl, hb⟩
    have K2 := Lib.hid (K.out.trans (hb.mono (by simp)))
    clear hb C
    go_wp2_with fail
    go_ret
    exact ⟨rfl, K2.out⟩
set_option maxRecDepth 100000 in
theorem rtext_any (k : Int) (t : ByteArray) (ht : t.size ≤ 300) (w : World) :
    Calls Tryd.prog 38 #[.agg #[.int .i64 k, .string t]] w fun e w' => e = .returned (.string (hostT k t)) ∧ Below w.heap.size w w' := by
  unfold hostT
  have K := Lib.hid ((Below.refl w.heap.size w).alloc (Nat.le_refl _) (.cells #[.int .i64 k, .string t] 43))
  by_cases h : k = 3
  · subst h
    rw [if_pos rfl]
    go_enter Tryd.func38, Tryd.ntmps38
    go_wp2_with fail
    go_ret
    exact ⟨rfl, K.out⟩
  · rw [if_neg h]
    have y : (k == (3 : Int)) = false := beq_eq_false_iff_ne.2 h
    go_enter Tryd.func38, Tryd.ntmps38
    go_wp2_with fail
    go_ret
    exact ⟨rfl, K.out⟩
set_option maxRecDepth 100000 in
theorem url_any (k : Int) (t : ByteArray) (ht : t.size ≤ 300) (w : World) :
    Calls Tryd.prog 23 #[.agg #[.int .i64 k, .string t]] w fun e w' => e = .returned (.string (urlT k t)) ∧ Below w.heap.size w w' := by
  have C := fun w => htext_any k t ht w
  have hs := hostT_size k t
  unfold urlT
  generalize hostT k t = T at *
  have K := Lib.hid ((Below.refl w.heap.size w).alloc (Nat.le_refl _) (.cells #[.int .i64 k, .string t] 43))
  go_enter Tryd.func23, Tryd.ntmps23
  go_wp2_with fail
  refine (C _).mono ?_; rintro e w1 ⟨rfl, hb⟩
  have K2 := Lib.hid (K.out.trans (hb.mono (by simp)))
  clear hb C
  go_wp2_with fail
  go_ret
  exact ⟨rfl, K2.out⟩
set_option maxRecDepth 100000 in
theorem rurl_any (k : Int) (t : ByteArray) (ht : t.size ≤ 300) (w : World) :
    Calls Tryd.prog 24 #[.agg #[.int .i64 k, .string t]] w fun e w' => e = .returned (.string (urlT k t)) ∧ Below w.heap.size w w' := by
  have C := fun w => rtext_any k t ht w
  have hs := hostT_size k t
  unfold urlT
  generalize hostT k t = T at *
  have K := Lib.hid ((Below.refl w.heap.size w).alloc (Nat.le_refl _) (.cells #[.int .i64 k, .string t] 43))
  go_enter Tryd.func24, Tryd.ntmps24
  go_wp2_with fail
  refine (C _).mono ?_; rintro e w1 ⟨rfl, hb⟩
  have K2 := Lib.hid (K.out.trans (hb.mono (by simp)))
  clear hb C
  go_wp2_with fail
  go_ret
  exact ⟨rfl, K2.out⟩
end Go.Proofs.YtelofhplpeeplaaDoor.wire
