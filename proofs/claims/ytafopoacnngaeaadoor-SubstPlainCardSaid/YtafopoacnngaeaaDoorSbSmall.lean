/- Small calls of layer 19: closures over characters, spans, copies of places, whether a place is among some. -/
import Derived.Test.YtafopoacnngaeaaDoorSbRow
import Derived.Test.YtafopoacnngaeaaDoorShelf
import Derived.Test.YtafopoacnngaeaaDoorGlLower
import Derived.Laws.Strings2
import Derived.Deep.LoopGhost
set_option linter.unusedSimpArgs false
set_option linter.unusedVariables false
namespace Go.Proofs.YtafopoacnngaeaaDoor.subst
open Go.RowKit Go.Proofs.YtafopoacnngaeaaDoor.errs Go.Proofs.YtafopoacnngaeaaDoor.rows Go.Proofs.YtafopoacnngaeaaDoor.utf Go.Proofs.YtafopoacnngaeaaDoor.chars Go.Proofs.YtafopoacnngaeaaDoor.glref

theorem index_at (p : ByteArray) (k : Nat) (h : k < p.size) : ∀ w, (Instr.index 9 (.string p) (.int .i64 k)).run Tryd.prog w = .ok (.int .u8 (p.get! k).toNat) w := fun w => by
  rw [run_index_string (h := Tryd.underlying9), dif_pos (by omega)]
  have hd : k < p.data.size := h
  show Result.ok (Value.int .u8 ((p.data[(k : Int).toNat]'hd).toNat : Int)) w = Result.ok (Value.int .u8 ((p.data[k]!).toNat : Int)) w
  rw [getElem!_pos p.data k hd]
  rfl

/-- Is a character in one of some spans? -/
def inSpans : List UInt8 → Int → Bool
  | a :: b :: r, c => (decide ((a.toNat : Int) ≤ c) && decide (c ≤ (b.toNat : Int))) || inSpans r c
  | _, _ => false
theorem drop2 {s : ByteArray} {i : Nat} (h : i + 1 < s.size) : s.data.toList.drop i = s.get! i :: s.get! (i + 1) :: s.data.toList.drop (i + 2) := by
  have one : ∀ i, i < s.size → s.data.toList.drop i = s.get! i :: s.data.toList.drop (i + 1) := fun i h => by
    have h' : i < s.data.toList.length := by rw [Array.length_toList]; exact h
    rw [List.drop_eq_getElem_cons h']
    congr 1
    have h2 : i < s.data.size := h
    show s.data.toList[i] = s.data[i]!
    rw [getElem!_pos s.data i h2, Array.getElem_toList]
  rw [one i (by omega), one (i + 1) h]

set_option maxRecDepth 100000 in
set_option maxHeartbeats 1000000 in
theorem within_any (c : Int) (s : ByteArray) (m : Nat) (hm : s.size = 2 * m) (hs : s.size ≤ 1000000) (w : World) :
    Calls Tryd.prog 31 #[.int .i32 c, .string s] w fun e w' => e = .returned (.bool (inSpans s.data.toList c)) ∧ w = w' := by
  obtain ⟨res, hres⟩ : ∃ res, Hid (inSpans s.data.toList c = res) := ⟨_, rfl⟩
  rw [hres.out]
  have HM := Lib.hid hm
  obtain ⟨n, hn⟩ : ∃ n, Hid (s.size = n) := ⟨_, rfl⟩
  rw [hn.out] at hs
  clear hm
  go_enter Tryd.func31, Tryd.ntmps31
  go_wp2_with fail
  go_loopg [5] m (fun g t wr => ∃ i : Nat, t = .int .i64 i ∧ i + 2 * g = n ∧ Hid (inSpans (s.data.toList.drop i) c = res) ∧ wr = w)
  case atStart => exact ⟨0, rfl, by rw [← hn.out, HM.out]; omega, hres, rfl⟩
  case round =>
    clear hres
    obtain ⟨i, rfl, hg, hd, rfl⟩ := hrel
    by_cases hlt : i < n
    · have y0 : (0 : Int) ≤ (i : Int) := by omega
      have y1 : (i : Int) < (s.size : Int) := by rw [hn.out]; omega
      have y2 : (i : Int) + 1 < (s.size : Int) := by rw [hn.out]; omega
      have ix := index_at s i (by rw [hn.out]; omega)
      have ix2 := index_at s (i + 1) (by rw [hn.out]; omega)
      rw [show ((i + 1 : Nat) : Int) = (i : Int) + 1 by omega] at ix2
      have hd := hd.out
      rw [drop2 (by rw [hn.out]; omega)] at hd
      have a1 := UInt8.toNat_lt (s.get! i)
      have a2 := UInt8.toNat_lt (s.get! (i + 1))
      unfold inSpans at hd
      generalize (s.get! i).toNat = a at *
      generalize (s.get! (i + 1)).toNat = b at *
      have z0 : (0 : Int) ≤ (a : Int) := by omega
      have z1 : (a : Int) ≤ 255 := by omega
      have z2 : (0 : Int) ≤ (b : Int) := by omega
      have z3 : (b : Int) ≤ 255 := by omega
      have z4 : (i : Int) ≤ 1000000 := by omega
      by_cases h1 : (a : Int) ≤ c
      · by_cases h2 : c ≤ (b : Int)
        · rw [decide_eq_true h1, decide_eq_true h2] at hd
          have V : Aside (res = true) := hd.symm
          clear hd a1 a2
          go_wp2_with fail
          go_ret
          exact ⟨by rw [V.out]; rfl, rfl⟩
        · rw [decide_eq_true h1, decide_eq_false h2] at hd
          have V := Lib.hid hd
          clear hd a1 a2
          go_wp2_with fail
          go_roundg (gk - 1)
          case measure => omega
          case rel => exact ⟨i + 2, by go_num, by omega, V, rfl⟩
      · rw [decide_eq_false h1] at hd
        have V := Lib.hid hd
        clear hd a1 a2
        go_wp2_with fail
        go_roundg (gk - 1)
        case measure => omega
        case rel => exact ⟨i + 2, by go_num, by omega, V, rfl⟩
    · have y1 : ¬ (i : Int) < (s.size : Int) := by rw [hn.out]; omega
      have V : Aside (res = false) := by
        show res = false
        rw [← hd.out, List.drop_eq_nil_of_le (by rw [Array.length_toList]; have := hn.out; show s.size ≤ i; omega)]
        rfl
      clear hd
      go_wp2_with fail
      go_ret
      exact ⟨by rw [V.out]; rfl, rfl⟩

theorem any_any (c : Int) (w : World) : Calls Tryd.prog 34 #[.int .i32 c] w fun e w' => e = .returned (.bool true) ∧ w = w' := by
  go_enter Tryd.func34, Tryd.ntmps34
  go_wp2_with fail
  go_ret
  exact ⟨rfl, rfl⟩
theorem eq_any (c d : Int) (b : Nat) (w : World) (h : w.cell? ⟨b, 0, none⟩ = some (.int .i32 d)) : Calls Tryd.prog 35 #[.int .i32 c, .pointer (some ⟨b, 0, none⟩)] w fun e w' => e = .returned (.bool (decide (c = d))) ∧ w = w' := by
  by_cases e : c = d
  · have e1 : (c == d) = true := beq_iff_eq.2 e
    rw [decide_eq_true e]
    clear e
    go_enter Tryd.func35, Tryd.ntmps35
    go_wp2_with fail
    go_ret
    exact ⟨rfl, rfl⟩
  · have e1 : (c == d) = false := beq_eq_false_iff_ne.2 e
    rw [decide_eq_false e]
    clear e
    go_enter Tryd.func35, Tryd.ntmps35
    go_wp2_with fail
    go_ret
    exact ⟨rfl, rfl⟩
theorem spans_any (c : Int) (s : ByteArray) (m : Nat) (hm : s.size = 2 * m) (hs : s.size ≤ 1000000) (b : Nat) (w : World) (h : w.cell? ⟨b, 0, none⟩ = some (.string s)) : Calls Tryd.prog 30 #[.int .i32 c, .pointer (some ⟨b, 0, none⟩)] w fun e w' => e = .returned (.bool (inSpans s.data.toList c)) ∧ w = w' := by
  have C := within_any c s m hm hs
  clear hm hs
  go_enter Tryd.func30, Tryd.ntmps30
  go_wp2_with fail
  refine (C _).mono ?_; rintro e w1 ⟨rfl, rfl⟩
  go_wp2_with fail
  go_ret
  exact ⟨rfl, rfl⟩

def IdxOut (L : List Nat) (x : Nat) (w : World) (e : Ending) (w' : World) : Prop := ∃ i : Int, e = .returned (.int .i64 i) ∧ decide (0 ≤ i) = L.contains x ∧ w = w'
set_option maxHeartbeats 1000000 in
theorem index_any (L : List Nat) (x : Nat) (v : Value) (w : World) (h : NatsIn w v L) (hn : L.length ≤ 1000001) :
    Calls Tryd.prog 36 #[v, .int .i64 (x : Int)] w fun e w' => IdxOut L x w e w' := by
  obtain ⟨a, cap, rfl, h1, h2, h3⟩ := h
  have H : Aside (0 < L.length → ∃ b, a = some ⟨b, 0, none⟩ ∧ ∀ j, j < L.length → w.cell? ⟨b, j, none⟩ = some (.int .i64 ((L.getD j 0 : Nat) : Int))) := h3
  clear h3
  obtain ⟨n, hln⟩ : ∃ n, Hid (L.length = n) := ⟨_, rfl⟩
  rw [hln.out] at h1 hn H ⊢
  go_enter Tryd.func36, Tryd.ntmps36
  go_wp2_with fail
  go_loopg [8] n (fun g t wr => ∃ k : Nat, t = .int .i64 k ∧ g + k = n ∧ wr = w ∧ Aside ((L.take k).contains x = false))
  case atStart => exact ⟨0, rfl, rfl, rfl, rfl⟩
  case round =>
    obtain ⟨k, rfl, hg, rfl, hA⟩ := hrel
    by_cases hlt : k < n
    · obtain ⟨b, rfl, hq⟩ := H.out (by omega)
      have c0 := hq k hlt
      have y0 : (0 : Int) ≤ (k : Int) := by omega
      have y1 : (k : Int) < (n : Int) := by omega
      have hst : Hid ((L.take (k + 1)).contains x = ((L.take k).contains x || (x == L.getD k 0))) := by
        show _ = _
        rw [List.take_succ_eq_append_getElem (by rw [hln.out]; exact hlt), List.getD_eq_getElem?_getD, List.getElem?_eq_getElem (by rw [hln.out]; exact hlt), Bool.eq_iff_iff, Bool.or_eq_true, List.contains_iff_mem, List.contains_iff_mem, List.mem_append, List.mem_singleton, beq_iff_eq]
        rfl
      generalize hu : L.getD k 0 = u at *
      have HU := Lib.hid hu
      clear hq hu
      by_cases e : x = u
      · have e1 : ((x : Int) == (u : Int)) = true := by rw [beq_iff_eq]; omega
        have V : Aside (L.contains x = true) := by
          show _ = true
          rw [List.contains_iff_mem, e, ← HU.out, List.getD_eq_getElem?_getD, List.getElem?_eq_getElem (by rw [hln.out]; exact hlt)]
          exact List.getElem_mem _
        clear e hst
        go_wp2_with fail
        go_ret
        exact ⟨k, rfl, by rw [V.out]; exact decide_eq_true y0, rfl⟩
      · have e1 : ((x : Int) == (u : Int)) = false := by rw [beq_eq_false_iff_ne]; omega
        have V : Aside ((L.take (k + 1)).contains x = false) := by
          show _ = false
          rw [hst.out, hA.out, beq_eq_false_iff_ne.2 e]; rfl
        clear e hst
        go_wp2_with fail
        go_roundg (gk - 1)
        case measure => omega
        case rel => exact ⟨k + 1, by go_num, by omega, rfl, V.out⟩
    · obtain rfl : k = n := by omega
      have y1 : ¬ (k : Int) < (k : Int) := by omega
      have V : Aside (L.contains x = false) := by
        have := hA.out
        rwa [List.take_of_length_le (by rw [hln.out]; omega)] at this
      go_wp2_with fail
      go_ret
      exact ⟨-1, rfl, by rw [V.out]; rfl, rfl⟩
theorem contains_any (L : List Nat) (x : Nat) (v : Value) (w : World) (h : NatsIn w v L) (hn : L.length ≤ 1000001) :
    Calls Tryd.prog 16 #[v, .int .i64 (x : Int)] w fun e w' => e = .returned (.bool (L.contains x)) ∧ w = w' := by
  have C := index_any L x v w h hn
  clear h
  obtain ⟨q, hq⟩ : ∃ q, Hid (L.contains x = q) := ⟨_, rfl⟩
  rw [hq.out]
  cases q with
  | true =>
    have C : Calls Tryd.prog 36 #[v, .int .i64 (x : Int)] w fun e w' => ∃ i : Int, e = .returned (.int .i64 i) ∧ 0 ≤ i ∧ w = w' := C.mono fun e w' ⟨i, h1, h2, h3⟩ => ⟨i, h1, of_decide_eq_true (h2.trans hq.out), h3⟩
    go_enter Tryd.func16, Tryd.ntmps16
    go_wp2_with fail
    refine C.mono ?_; rintro e w1 ⟨i, rfl, h2, rfl⟩
    go_wp2_with fail
    go_ret
    exact ⟨rfl, rfl⟩
  | false =>
    have C : Calls Tryd.prog 36 #[v, .int .i64 (x : Int)] w fun e w' => ∃ i : Int, e = .returned (.int .i64 i) ∧ ¬ 0 ≤ i ∧ w = w' := C.mono fun e w' ⟨i, h1, h2, h3⟩ => ⟨i, h1, of_decide_eq_false (h2.trans hq.out), h3⟩
    go_enter Tryd.func16, Tryd.ntmps16
    go_wp2_with fail
    refine C.mono ?_; rintro e w1 ⟨i, rfl, h2, rfl⟩
    have hd : decide (0 ≤ i) = false := decide_eq_false (by omega)
    go_wp2_with fail
    go_ret
    exact ⟨by rw [← hd]; rfl, rfl⟩

theorem nums_map (L : List Nat) : nums L = (L.map fun n : Nat => (n : Int)).map (Value.int .i64) := by unfold nums; rw [List.map_map]; rfl
/-- A copy of places. -/
def CloneOut (L : List Nat) (w : World) (e : Ending) (w' : World) : Prop := ∃ v, e = .returned v ∧ Nats w' w.heap.size v L ∧ Below w.heap.size w w'
theorem clone_any (L : List Nat) (v : Value) (w : World) (h : NatsIn w v L) (hn : L.length ≤ 1000001) :
    Calls Tryd.prog 32 #[v] w fun e w' => CloneOut L w e w' := by
  obtain ⟨a, cap, rfl, h1, h2, h3⟩ := h
  by_cases h0 : 0 < L.length
  · obtain ⟨b, rfl, hq⟩ := h3 h0
    refine (Tryd.slices_Clone_int b 0 L.length cap (L.map fun n : Nat => (n : Int)) w (by simp) (by omega) (fun j hj => ?_)).mono ?_
    · rw [List.length_map] at hj
      rw [Nat.zero_add, hq j hj]
      congr 2
      simp [List.getD_eq_getElem?_getD, List.getElem?_eq_getElem hj]
    · rintro e w' ⟨v', rfl, ho, -, hb⟩
      refine ⟨v', rfl, ?_, hb⟩
      rw [List.take_of_length_le (by simp), ← nums_map] at ho
      exact ho
  · obtain rfl : L = [] := List.length_eq_zero_iff.1 (by omega)
    cases a with
    | none =>
      refine (Tryd.slices_Clone_int_nil 0 cap w).mono ?_
      rintro e w' ⟨rfl, rfl⟩
      exact ⟨_, rfl, World.ownsRow_nil _ _ _ _, Below.refl _ _⟩
    | some a =>
      refine (Tryd.slices_Clone_int_zero a cap w).mono ?_
      rintro e w' ⟨v', rfl, ho, -, hb⟩
      exact ⟨v', rfl, ho, hb⟩
end Go.Proofs.YtafopoacnngaeaaDoor.subst
