/- slices.Backward of a row of numbers: its closure hands the numbers to a round each, the last one first. -/
import Derived.Test.YtegbaocpacbljaaDoorArSame
import Derived.RangeFuncBox
import Derived.RangeFuncLeaves
import Derived.RangeFuncNested
import Derived.Shelf.Abstract
import Derived.OwnWalkIn
import Derived.TacticsInMore
import Derived.LoopNIn
import Derived.LoopIn
namespace Go.Proofs.YtegbaocpacbljaaDoor.arena
open Go.RowKit Go.Shelf
attribute [local go_sem] Oper.semAt_some

/-- What has come when m numbers are left. -/
def dn (l : List Nat) (m : Nat) : List (Nat × Nat) := (List.range (l.length - m)).map fun j => (l.length - 1 - j, l.getD (l.length - 1 - j) 0)
theorem dn_start (l : List Nat) : dn l l.length = [] := by simp [dn]
theorem dn_length (l : List Nat) (m : Nat) : (dn l m).length = l.length - m := by simp [dn]
theorem dn_step (l : List Nat) (m : Nat) (h : m + 1 ≤ l.length) : dn l m = dn l (m + 1) ++ [(m, l.getD m 0)] := by
  unfold dn
  rw [show l.length - m = l.length - (m + 1) + 1 by omega, List.range_succ, List.map_append]
  simp only [List.map_cons, List.map_nil]
  rw [show l.length - 1 - (l.length - (m + 1)) = m by omega]
theorem dn_all (l : List Nat) : (dn l 0).map (·.2) = l.reverse := by
  unfold dn
  apply List.ext_getElem
  · simp
  · intro i h1 h2
    simp at h1 h2 ⊢
    rw [List.getElem?_eq_getElem (by omega)]
    simp

/-- The blocks of X lie as they lay. -/
def Stay (X : List Nat) (W W' : World) : Prop := ∀ k, k ∈ X → W'.heap[k]? = W.heap[k]?
theorem Stay.refl (X : List Nat) (W : World) : Stay X W W := fun _ _ => rfl
theorem Stay.trans {X : List Nat} {A B C : World} (h : Stay X A B) (k : Stay X B C) : Stay X A C := fun i hi => (k i hi).trans (h i hi)
theorem Stay.cell {X : List Nat} {A B : World} (h : Stay X A B) (p : Addr) (hp : p.block ∈ X) : B.cell? p = A.cell? p := World.cell?_of_block (w := A) (h p.block hp)

set_option maxRecDepth 100000 in
set_option maxHeartbeats 2000000 in
theorem back1_in (F : Fence) (n : Nat) (hf : F.fn 39) (hro : F.round = none) (hn : 1 ≤ n) (y Bs b off cap : Nat) (X : List Nat) (l : List Nat) (hlen : l.length ≤ 1000000) (hb : b ∈ X) (J Jx : List (Nat × Nat) → World → Prop)
    (hY : ∀ pre x W, J pre W → pre.length < l.length → YieldAt F (n - 1) Tryd.prog y #[.int .i64 (x.1 : Int), .int .i64 (x.2 : Int)] W fun e W' =>
      (e = .returned (.bool true) ∧ J (pre ++ [x]) W' ∧ Stay X W W') ∨ (e = .returned (.bool false) ∧ Jx (pre ++ [x]) W'))
    (W : World) (hBn : Bs ∈ X) (hBs : W.cell? ⟨Bs, 0, none⟩ = some (.slice (some ⟨b, off, none⟩) l.length cap)) (hcap : l.length ≤ cap ∧ cap ≤ 9223372036854775807) (hc : ∀ j, j < l.length → W.cell? ⟨b, off + j, none⟩ = some (.int .i64 ((l[j]?.getD 0 : Nat) : Int))) (h0 : J [] W) :
    CallsIn F n Tryd.prog 39 #[.func (.yield y) #[] #[], .pointer (some ⟨Bs, 0, none⟩)] W fun e W' => (∃ v, e = .returned v) ∧
      ((∃ ys, ys = dn l 0 ∧ J ys W') ∨ (∃ pre, (∃ k, k ≤ l.length ∧ pre = dn l k) ∧ Jx pre W')) := by
  refine callsIn_of_wp Tryd.func39 rfl hf ?_ hro
  simp only [Tryd.ntmps39, List.size_toArray, List.length_cons, List.length_nil, Nat.reduceAdd, Nat.reduceSub, Array.replicate_succ, Array.replicate_zero, List.push_toArray, List.append_toArray, List.nil_append, List.cons_append]
  obtain ⟨hc1, hc2⟩ := hcap
  gi_wp2
  gi_loopw [3] (fun i wr => ∃ m : Nat, m ≤ l.length ∧ i = .int .i64 ((m : Int) - 1) ∧ J (dn l m) wr ∧ Stay X W wr)
    (fun i _ => (intOf i + 1).toNat)
  case atStart => exact ⟨l.length, Nat.le_refl _, rfl, by rw [dn_start]; exact h0, Stay.refl _ _⟩
  case round =>
    obtain ⟨m, hm, rfl, hJs, hnx⟩ := hrel
    cases m with
    | zero =>
      gi_wp2
      go_end0
      exact ⟨⟨_, rfl⟩, .inl ⟨_, rfl, hJs⟩⟩
    | succ m =>
      have e0 : ((m + 1 : Nat) : Int) - 1 = (m : Int) := by omega
      rw [e0]
      have hcx : wr.cell? ⟨b, off + m, none⟩ = some (.int .i64 ((l[m]?.getD 0 : Nat) : Int)) := (hnx.cell ⟨b, off + m, none⟩ hb).trans (hc m (by omega))
      have hbx : wr.cell? ⟨Bs, 0, none⟩ = some (.slice (some ⟨b, off, none⟩) l.length cap) := (hnx.cell ⟨Bs, 0, none⟩ hBn).trans hBs
      obtain ⟨fn, tmps, assign, body, hy, hR⟩ := hY _ (m, l[m]?.getD 0) wr hJs (by rw [dn_length]; omega)
      dsimp only at hy
      have x0 : (0 : Int) ≤ (m : Int) := by omega
      have x1 : (m : Int) < (l.length : Int) := by omega
      have hst := dn_step l m hm
      have hS : Hid (dn l (m + 1) ++ [(m, l[m]?.getD 0)] = dn l m) := by rw [List.getD_eq_getElem?_getD] at hst; exact hst.symm
      clear hst e0
      gi_wp2
      refine hR.mono ?_
      rintro e W3 (⟨rfl, hJ3, hk3⟩ | ⟨rfl, hJx3⟩)
      · gi_wp2
        go_roundw
        case rel => exact ⟨m, by omega, by go_num, by rw [← hS.out]; exact hJ3, hnx.trans hk3⟩
        case measure => simp [intOf]
      · gi_wp2
        refine bodyPost_ret (results_none rfl _ _ _) rfl ?_
        exact ⟨⟨_, rfl⟩, .inr ⟨_, ⟨m, by omega, hS.out⟩, hJx3⟩⟩

set_option maxRecDepth 100000 in
set_option maxHeartbeats 1000000 in
theorem back1_nil_in (F : Fence) (n : Nat) (hf : F.fn 39) (hro : F.round = none) (y Bs : Nat) (a : Option Addr) (cap : Nat) (J : List (Nat × Nat) → World → Prop) (W : World) (hBs : W.cell? ⟨Bs, 0, none⟩ = some (.slice a 0 cap)) (h0 : J [] W) :
    CallsIn F n Tryd.prog 39 #[.func (.yield y) #[] #[], .pointer (some ⟨Bs, 0, none⟩)] W fun e W' => (∃ v, e = .returned v) ∧ J [] W' := by
  refine callsIn_of_wp Tryd.func39 rfl hf ?_ hro
  simp only [Tryd.ntmps39, List.size_toArray, List.length_cons, List.length_nil, Nat.reduceAdd, Nat.reduceSub, Array.replicate_succ, Array.replicate_zero, List.push_toArray, List.append_toArray, List.nil_append, List.cons_append]
  gi_wp2
  gi_loopw [3] (fun i wr => i = .int .i64 (-1) ∧ J [] wr) (fun _ _ => 0)
  case atStart => exact ⟨rfl, h0⟩
  case round =>
    obtain ⟨rfl, hJs⟩ := hrel
    gi_wp2
    go_end0
    exact ⟨⟨_, rfl⟩, hJs⟩

set_option maxHeartbeats 1000000 in
/-- slices.Backward: the slice is boxed; the function value captures the box. -/
theorem backward_in (F : Fence) (n : Nat) (hf : F.fn 33) (hro : F.round = none) (a : Option Addr) (len cap : Nat) (w : World) :
    CallsIn F n Tryd.prog 33 #[.slice a len cap] w fun e w' => e = .returned (.func (.func 39) #[] #[.pointer (some ⟨w.heap.size, 0, none⟩)]) ∧ w.alloc (.cells #[.slice a len cap] 27) = w' := by
  refine callsIn_of_wp Tryd.func33 rfl hf ?_ hro
  simp only [Tryd.ntmps33, List.size_toArray, List.length_cons, List.length_nil, Nat.reduceAdd, Nat.reduceSub, Array.replicate_succ, Array.replicate_zero, List.push_toArray, List.append_toArray, List.nil_append, List.cons_append]
  gi_wp2
  go_ret
  exact ⟨rfl, rfl⟩

/-- What slices.Backward hands back, of a row of numbers whose block is one of X. -/
theorem backward_stops (F : Fence) (n : Nat) (hf : F.fn 39) (hro : F.round = none) (hn : 1 ≤ n) (Bs : Nat) (X : List Nat) (sv : Value) (l : List Nat) (hlen : l.length ≤ 1000000) (w : World) (hBs : Bs < w.heap.size) (hBX : Bs ∈ X)
    (hc : w.cell? ⟨Bs, 0, none⟩ = some sv) (hI : Rd w sv l) (hX : ∀ g, sv.ownBlock = some g → g ∈ X) :
    SeqStopsK F n Tryd.prog 39 #[.pointer (some ⟨Bs, 0, none⟩)] (fun x : Nat × Nat => #[Value.int .i64 (x.1 : Int), Value.int .i64 (x.2 : Int)]) (Stay X) (fun ys => ys = dn l 0)
      (fun pre => ∃ k, k ≤ l.length ∧ pre = dn l k) l.length w := fun y J Jx W hW _ _ hY h0 => by
  have hc' := (hW.cell (p := ⟨Bs, 0, none⟩) hBs).trans hc
  obtain ⟨a, cap, rfl, h1, h2, h3⟩ := hI.below hW
  by_cases hl : l.length = 0
  · have hl0 : l = [] := List.length_eq_zero_iff.1 hl
    subst hl0
    exact (back1_nil_in F n hf hro y Bs a cap J W hc' h0).mono fun e W' ⟨he, hj⟩ => ⟨he, .inl ⟨_, rfl, hj⟩⟩
  · obtain ⟨b, off, rfl, hcs⟩ := h3 (by omega)
    refine back1_in F n hf hro hn y Bs b off cap X l hlen (hX b rfl) J Jx hY W hBX hc' ⟨h1, h2⟩ (fun j hj => ?_) h0
    rw [hcs j hj, List.getD_eq_getElem?_getD]
end Go.Proofs.YtegbaocpacbljaaDoor.arena
