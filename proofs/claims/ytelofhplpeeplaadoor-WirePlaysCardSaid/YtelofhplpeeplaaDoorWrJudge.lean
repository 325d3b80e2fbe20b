/- wire.Judge and the document's: why a response can't be used. -/
import Derived.Test.YtelofhplpeeplaaDoorMdAccept
import Derived.Test.YtelofhplpeeplaaDoorCalm
import Derived.Deep.QuietTactic
import Derived.BigQuiet
set_option linter.unusedSimpArgs false
set_option linter.unusedVariables false
namespace Go.Proofs.YtelofhplpeeplaaDoor.wire
open Go.RowKit Go.Proofs.YtelofhplpeeplaaDoor.errs Go.Proofs.YtelofhplpeeplaaDoor.media

/-- May a document be of a type? -/
noncomputable def typed (ap : Bool) (ty : ByteArray) : Bool := (ap && decide (ty.size = 0)) || decide (rkOf (mediaOf ty) = 0)
/-- How many bytes may a document have? -/
def mostOf (ap : Bool) : Nat := if ap then 131072 else 1048576
/-- The error's number of a response. -/
noncomputable def jk (ap : Bool) (st : Int) (rd tm : Bool) (ty : ByteArray) (n : Nat) : Nat :=
  if tm then 43 else if rd then 41 else if 300 ≤ st ∧ st ≤ 399 then 41 else if st ≠ 200 then 40 else if typed ap ty then (if mostOf ap < n then 14 else 0) else 42
def AccR (ok : Bool) (w : World) (e : Ending) (w' : World) : Prop :=
  ∃ x, e = .returned x ∧ ((ok = true ∧ x = .nilIface) ∨ (ok = false ∧ ∃ b, x = .iface 65 (.pointer (some ⟨b, 0, none⟩)))) ∧ Below w.heap.size w w'
theorem no_bytes {s : ByteArray} (h : s.size = 0) : s.toList = [] := by
  rw [Lib.toList_data]
  exact List.length_eq_zero_iff.1 (by rw [Array.length_toList]; exact h)
theorem some_bytes {s : ByteArray} (h : ¬ s.size = 0) : s.toList ≠ [] := fun e => h (by
  rw [Lib.toList_data] at e
  have := congrArg List.length e
  rw [Array.length_toList] at this
  exact this)

set_option maxRecDepth 100000 in
set_option maxHeartbeats 1000000 in
theorem acc_any (ap : Bool) (ty : ByteArray) (hs : ty.size ≤ 1000000) (w : World) :
    Calls Tryd.prog 26 #[.bool ap, .string ty] w fun e w' => AccR (typed ap ty) w e w' := by
  have C := fun w => accept_any ty hs w
  have R : ∀ (x : Value) (w : World), AccIs w x (mediaOf ty) → (rkOf (mediaOf ty) = 0 ∧ x = .nilIface) ∨ (rkOf (mediaOf ty) ≠ 0 ∧ ∃ b, x = .iface 65 (.pointer (some ⟨b, 0, none⟩))) := fun x w h => by
    cases hm : mediaOf ty with
    | bad k a =>
      rw [hm] at h
      obtain ⟨v, ⟨b, hb, -⟩, -⟩ := h
      exact .inr ⟨(by show 42 ≠ 0; decide), b, hb⟩
    | good t u ps =>
      rw [hm] at h
      rcases h with ⟨hf, hx⟩ | ⟨hf, ⟨b, hb, -⟩⟩
      · exact .inl ⟨by show (if fits t u ps then 0 else 42) = 0; rw [hf]; rfl, hx⟩
      · exact .inr ⟨by show (if fits t u ps then 0 else 42) ≠ 0; rw [hf]; decide, b, hb⟩
  unfold typed
  have E0 : ty.size = 0 → ty.toList = [] := no_bytes
  have E1 : ¬ ty.size = 0 → ty.toList ≠ [] := some_bytes
  generalize mediaOf ty = o at *
  obtain ⟨q, hq⟩ : ∃ q, decide (ty.size = 0) = q := ⟨_, rfl⟩
  rw [hq]
  have HR := Lib.hid R
  have e1 : (ty.toList == []) = q := by
    cases q with
    | true => rw [E0 (of_decide_eq_true hq)]; rfl
    | false => exact beq_eq_false_iff_ne.2 (E1 (of_decide_eq_false hq))
  have e2 : ty.toList.isEmpty = q := by rw [← e1]; cases ty.toList <;> rfl
  clear R hq E0 E1
  have fin : ∀ (wz : World) (x : Value) (w2 : World), AccIs wz x o → Below w.heap.size w w2 → AccR (decide (rkOf o = 0)) w (.returned x) w2 := fun wz x w2 hx hb => by
    rcases HR.out x wz hx with ⟨h1, h2⟩ | ⟨h1, h2⟩
    · exact ⟨x, rfl, .inl ⟨decide_eq_true h1, h2⟩, hb⟩
    · exact ⟨x, rfl, .inr ⟨decide_eq_false h1, h2⟩, hb⟩
  have FIN := Lib.hid fin
  clear fin HR
  cases ap <;> cases q
  all_goals
    go_enter Tryd.func26, Tryd.ntmps26
    go_wp2_with fail
  · refine (C _).mono ?_; rintro e w2 ⟨x, rfl, hx, hb⟩
    have K := Lib.hid (FIN.out _ _ _ hx hb)
    clear hx hb FIN
    go_wp2_with fail
    go_ret
    exact K.out
  · refine (C _).mono ?_; rintro e w2 ⟨x, rfl, hx, hb⟩
    have K := Lib.hid (FIN.out _ _ _ hx hb)
    clear hx hb FIN
    go_wp2_with fail
    go_ret
    exact K.out
  · refine (C _).mono ?_; rintro e w2 ⟨x, rfl, hx, hb⟩
    have K := Lib.hid (FIN.out _ _ _ hx hb)
    clear hx hb FIN
    go_wp2_with fail
    go_ret
    exact K.out
  · go_ret
    exact ⟨_, rfl, .inl ⟨rfl, rfl⟩, Below.refl _ _⟩

theorem most_any (ap : Bool) (w : World) : Calls Tryd.prog 28 #[.bool ap] w fun e w' => e = .returned (.int .i64 (mostOf ap)) ∧ w = w' := by
  cases ap <;>
  · go_enter Tryd.func28, Tryd.ntmps28
    go_wp2
    go_ret
    exact ⟨rfl, rfl⟩

/-- What is told of a response: nothing, or a fault of a number at 0. -/
def JIs (k : Nat) (w : World) (x : Value) : Prop := (k = 0 ∧ x = .nilIface) ∨ (k ≠ 0 ∧ ∃ v, FaultAt w x (k : Int) 0 v)
def JOut (k : Nat) (w : World) (e : Ending) (w' : World) : Prop := ∃ x, e = .returned x ∧ JIs k w' x ∧ Below w.heap.size w w'
theorem jnew (w : World) (k : Nat) (hk : k ≠ 0) (v : Value) (w0 : World) (hb : Below w0.heap.size w0 w) (b : Nat) (hbb : b = w.heap.size) :
    JOut k w0 (.returned (.iface 65 (.pointer (some ⟨b, 0, none⟩)))) (w.alloc (.cells #[.int .i64 (k : Int), .int .i64 0, v] 69)) := by
  subst hbb
  exact ⟨_, rfl, .inr ⟨hk, v, fault_new _ _ _ _⟩, hb.alloc hb.size _⟩

set_option maxRecDepth 100000 in
set_option maxHeartbeats 2000000 in
theorem judge_any (ap : Bool) (id : Int) (st : Int) (rd tm : Bool) (ty ca : ByteArray) (a : Option Addr) (n c : Nat) (hs : ty.size ≤ 1000000) (w : World) :
    Calls Tryd.prog 8 #[.bool ap, .agg #[.int .u64 id, .int .i64 st, .bool rd, .bool tm, .string ty, .string ca, .slice a n c]] w fun e w' => JOut (jk ap st rd tm ty n) w e w' := by
  have F := fail_any
  have C := fun w => acc_any ap ty hs w
  have W := wrap_any
  have M := fun w => most_any ap w
  obtain ⟨k, hk⟩ : ∃ k, Hid (jk ap st rd tm ty n = k) := ⟨_, rfl⟩
  rw [hk.out]
  have HK : Hid ((if tm then 43 else if rd then 41 else if 300 ≤ st ∧ st ≤ 399 then 41 else if st ≠ 200 then 40 else if typed ap ty then (if mostOf ap < n then 14 else 0) else 42) = k) := hk.out
  generalize typed ap ty = tt at *
  generalize mostOf ap = m at *
  clear hk hs
  cases tm with
  | true =>
    have V : Hid (k = 43) := HK.out.symm
    clear HK C W M
    go_enter Tryd.func8, Tryd.ntmps8
    go_wp2_with fail
    refine (F _ _ _).mono ?_; rintro e w2 ⟨rfl, rfl⟩
    go_wp2_with fail
    go_ret
    rw [V.out]
    exact jnew _ 43 (by decide) _ _ ((Below.refl _ w).alloc (Nat.le_refl _) _) _ (by simp)
  | false =>
    cases rd with
    | true =>
      have V : Hid (k = 41) := HK.out.symm
      clear HK C W M
      go_enter Tryd.func8, Tryd.ntmps8
      go_wp2_with fail
      refine (F _ _ _).mono ?_; rintro e w2 ⟨rfl, rfl⟩
      go_wp2_with fail
      go_ret
      rw [V.out]
      exact jnew _ 41 (by decide) _ _ ((Below.refl _ w).alloc (Nat.le_refl _) _) _ (by simp)
    | false =>
      by_cases h3 : 300 ≤ st ∧ st ≤ 399
      · have V : Hid (k = 41) := by have := HK.out; rw [if_neg (by decide), if_neg (by decide), if_pos h3] at this; exact this.symm
        obtain ⟨y1, y2⟩ := h3
        clear HK C W M
        go_enter Tryd.func8, Tryd.ntmps8
        go_wp2_with fail
        refine (F _ _ _).mono ?_; rintro e w2 ⟨rfl, rfl⟩
        go_wp2_with fail
        go_ret
        rw [V.out]
        exact jnew _ 41 (by decide) _ _ ((Below.refl _ w).alloc (Nat.le_refl _) _) _ (by simp)
      · have HK2 : Hid ((if st ≠ 200 then 40 else if tt then (if m < n then 14 else 0) else 42) = k) := by have := HK.out; rw [if_neg (by decide), if_neg (by decide), if_neg h3] at this; exact this
        have hy : ¬ (300 : Int) ≤ st ∨ ((300 : Int) ≤ st ∧ ¬ st ≤ (399 : Int)) := by omega
        clear HK h3
        by_cases h4 : st = 200
        · have HK3 : Hid ((if tt then (if m < n then 14 else 0) else 42) = k) := by have := HK2.out; rw [if_neg (by omega)] at this; exact this
          clear HK2 hy
          subst h4
          go_enter Tryd.func8, Tryd.ntmps8
          go_wp2_with fail
          have cn : ∀ w2, Below (w.heap.size + 1) (w.alloc (.cells #[.int .u64 id, .int .i64 200, .bool false, .bool false, .string ty, .string ca, .slice a n c] 25)) w2 → w2.cell? ⟨w.heap.size, 6, none⟩ = some (.slice a n c) := fun w2 hb => by
            rw [hb.cell (p := ⟨w.heap.size, 6, none⟩) (by simp), World.cell?_alloc_at _ _ _ _ rfl]; rfl
          refine (C _).mono ?_; rintro e w2 ⟨x, rfl, hx, hb⟩
          have CN := cn w2 (hb.mono (by simp))
          have KB : Hid (Below w.heap.size w w2) := ((Below.refl _ w).alloc (Nat.le_refl _) _).trans (hb.mono (by simp))
          clear hb cn
          rcases hx with ⟨rfl, rfl⟩ | ⟨rfl, b, rfl⟩
          · have HK4 : Hid ((if m < n then 14 else 0) = k) := HK3.out
            clear HK3
            have MQ : ∀ n', Calls Tryd.prog 28 #[.bool ap] (w2.drewN n') fun e w3 => e = .returned (.int .i64 m) ∧ ∃ m, w3 = w2.drewN m := fun n' => (M _).mono fun e w' ⟨e1, e2⟩ => ⟨e1, n', e2.symm⟩
            by_cases h5 : m < n
            · have V : Hid (k = 14) := by have := HK4.out; rw [if_pos h5] at this; exact this.symm
              have y1 : (m : Int) < (n : Int) := by omega
              clear HK4 h5
              go_wp2_with fail
              go_quiet ((with_reducible exact MQ _))
              go_wp2_with fail
              refine (F _ _ _).mono ?_; rintro e w4 ⟨rfl, rfl⟩
              go_wp2_with fail
              go_ret
              rw [V.out]
              exact jnew _ 14 (by decide) _ _ (KB.out.trans ((show Below w.heap.size w2 (w2.drewN nq) from ⟨rfl, rfl, rfl, Nat.le_refl _, fun _ _ => rfl⟩))) _ (by simp)
            · have V : Hid (k = 0) := by have := HK4.out; rw [if_neg h5] at this; exact this.symm
              have y1 : ¬ (m : Int) < (n : Int) := by omega
              clear HK4 h5
              go_wp2_with fail
              go_quiet ((with_reducible exact MQ _))
              go_wp2_with fail
              go_ret
              rw [V.out]
              exact ⟨_, rfl, .inl ⟨rfl, rfl⟩, KB.out.trans ((show Below w.heap.size w2 (w2.drewN nq) from ⟨rfl, rfl, rfl, Nat.le_refl _, fun _ _ => rfl⟩))⟩
          · have V : Hid (k = 42) := HK3.out.symm
            clear HK3 M
            go_wp2_with fail
            refine (W _ _ _ _).mono ?_; rintro e w4 ⟨rfl, rfl⟩
            go_wp2_with fail
            go_ret
            rw [V.out]
            exact jnew _ 42 (by decide) _ _ KB.out _ (by simp)
        · have V : Hid (k = 40) := by have := HK2.out; rw [if_pos h4] at this; exact this.symm
          have y4 : (st == (200 : Int)) = false := beq_eq_false_iff_ne.2 h4
          have y5 : (st != (200 : Int)) = true := by rw [bne_iff_ne]; exact h4
          clear HK2 C W M
          rcases hy with y1 | ⟨y1, y2⟩
          all_goals
            go_enter Tryd.func8, Tryd.ntmps8
            go_wp2_with fail
            refine (F _ _ _).mono ?_; rintro e w2 ⟨rfl, rfl⟩
            go_wp2_with fail
            go_ret
            rw [V.out]
            exact jnew _ 40 (by decide) _ _ ((Below.refl _ w).alloc (Nat.le_refl _) _) _ (by simp)

theorem jkind {k : Nat} {W w : World} {x : Value} (hL : Laid W) (h : JIs k W x) (hk : Keeps W w) :
    Calls Tryd.prog 9 #[x] w fun e w' => e = .returned (.int .i64 (k : Int)) ∧ Keeps W w' := by
  rcases h with ⟨rfl, rfl⟩ | ⟨-, v, hf⟩
  · exact (kind_nil w).mono fun _ _ ⟨h1, h2⟩ => ⟨h1, h2 ▸ hk⟩
  · exact kind_keeps hL hf hk
end Go.Proofs.YtelofhplpeeplaaDoor.wire
