/- The characters that stand for themselves, written into a builder of texts. -/
import Derived.Test.YthkpkohgefikeaaWrite
import Derived.Test.YthkpkohgefikeaaShelf
set_option linter.unusedSimpArgs false
set_option linter.unusedVariables false
namespace Go.Proofs.Ythkpkohgefikeaa.puny
open Go.RowKit Go.Proofs.Ythkpkohgefikeaa.build

/-- A slice of numbers in a block below B. -/
def Chars (B : Nat) (a : Option Addr) (xs : List Int) (w : World) : Prop :=
  0 < xs.length → ∃ b off, a = some ⟨b, off, none⟩ ∧ b < B ∧ ∀ j, j < xs.length → w.cell? ⟨b, off + j, none⟩ = some (.int .i64 (xs.getD j 0))
theorem Chars.below {B : Nat} {a : Option Addr} {xs : List Int} {w w' : World} (h : Chars B a xs w) (hb : Below B w w') : Chars B a xs w' := by
  intro h0
  obtain ⟨b, off, e, h1, h2⟩ := h h0
  exact ⟨b, off, e, h1, fun j hj => (hb.cell (p := ⟨b, off + j, none⟩) h1).trans (h2 j hj)⟩

/-- The bytes of the characters that stand for themselves. -/
def plainOf (xs : List Int) : List UInt8 := (xs.filter fun c => decide (c < 128)).map fun c => UInt8.ofNat c.toNat
def marked (l : List UInt8) : List UInt8 := if l = [] then [] else l ++ [45]
theorem plain_yes (xs : List Int) (k : Nat) (h : k < xs.length) (hc : xs.getD k 0 < 128) : plainOf (xs.take (k + 1)) = plainOf (xs.take k) ++ [UInt8.ofNat (xs.getD k 0).toNat] := by
  unfold plainOf
  rw [List.take_succ_eq_append_getElem h, List.filter_append, List.map_append]
  have e : xs.getD k 0 = xs[k] := by simp [List.getD_eq_getElem?_getD, h]
  rw [e] at hc ⊢
  simp [hc]
theorem plain_no (xs : List Int) (k : Nat) (h : k < xs.length) (hc : ¬ xs.getD k 0 < 128) : plainOf (xs.take (k + 1)) = plainOf (xs.take k) := by
  unfold plainOf
  rw [List.take_succ_eq_append_getElem h, List.filter_append, List.map_append]
  have e : xs.getD k 0 = xs[k] := by simp [List.getD_eq_getElem?_getD, h]
  rw [e] at hc
  simp [hc]
theorem plain_length (xs : List Int) : (plainOf xs).length ≤ xs.length := by
  unfold plainOf
  rw [List.length_map]
  exact List.length_filter_le _ _

set_option maxHeartbeats 2000000 in
theorem plain_any (B b : Nat) (a : Option Addr) (n cap : Nat) (xs : List Int) (w : World) (hn : xs.length = n) (hm : n ≤ 1000000) (hc : Chars B a xs w) (hr : ∀ j, j < n → 0 ≤ xs.getD j 0) (h : Bld B b [] w) (hB : B ≤ w.heap.size) :
    Calls Try.prog 10 #[.pointer (some ⟨b, 0, none⟩), .slice a n cap] w fun e w' => e = .returned (.int .i64 (plainOf xs).length) ∧ Bld B b (marked (plainOf xs)) w' ∧ Below B w w' ∧ Spares b w w' := by
  have H : Aside (Bld B b [] w ∧ ∀ j, j < n → 0 ≤ xs.getD j 0) := ⟨h, hr⟩
  have HN : Hid (xs.length = n) := hn
  have HC : Aside (Chars B a xs w) := hc
  clear h hr hn hc
  obtain ⟨p, hp⟩ : ∃ p, Hid (plainOf xs = p) := ⟨_, rfl⟩
  rw [hp.out]
  go_enter Try.func10, Try.ntmps10
  go_wp2_with fail
  go_loopg [10] n (fun g s wr => ∃ k : Nat, s = .int .i64 k ∧ g + k = n ∧ Aside (Bld B b (plainOf (xs.take k)) wr ∧ Below B w wr ∧ Spares b w wr))
  case atStart => exact ⟨0, rfl, rfl, H.out.1, Below.refl _ _, Lib.OthersKept.refl _ _ _⟩
  case round =>
    obtain ⟨k, rfl, hg, hA⟩ := hrel
    by_cases hlt : k < n
    · obtain ⟨cb, off, rfl, hcb, hcell⟩ := (HC.out.below hA.out.2.1) (by rw [HN.out]; omega)
      have y0 : (0 : Int) ≤ (k : Int) := by omega
      have y1 : (k : Int) < (n : Int) := by omega
      have c0 := hcell k (by rw [HN.out]; exact hlt)
      have x0 := H.out.2 k hlt
      have hp1 := plain_yes xs k (by rw [HN.out]; exact hlt)
      have hp2 := plain_no xs k (by rw [HN.out]; exact hlt)
      have hlen : (plainOf (xs.take k)).length ≤ k := Nat.le_trans (plain_length _) (by rw [List.length_take]; omega)
      obtain ⟨x, hx⟩ : ∃ x, Hid (xs.getD k 0 = x) := ⟨_, rfl⟩
      rw [hx.out] at c0 x0 hp1 hp2
      clear hcell
      by_cases h128 : x < 128
      · have hp := hp1 h128
        have W := byte_any B b (plainOf (xs.take k)) (UInt8.ofNat x.toNat) wr hA.out.1 (by omega) (by have := hA.out.2.1.size; omega)
        have e8 : ((UInt8.ofNat x.toNat).toNat : Int) = x := by rw [UInt8.toNat_ofNat_of_lt' (by show _ < 256; omega)]; omega
        rw [e8] at W
        have P : Aside (plainOf (xs.take (k + 1)) = plainOf (xs.take k) ++ [UInt8.ofNat x.toNat]) := hp
        clear hp hp1 hp2 e8
        go_wp2_with fail
        refine W.mono ?_; rintro e w' ⟨rfl, z1, z2, z3⟩
        go_wp2_with fail
        go_roundg (gk - 1)
        case measure => omega
        case rel => exact ⟨k + 1, by go_num, by omega, by rw [P.out]; exact ⟨z1, hA.out.2.1.trans z2, hA.out.2.2.trans z3⟩⟩
      · have P : Aside (plainOf (xs.take (k + 1)) = plainOf (xs.take k)) := hp2 h128
        clear hp1 hp2
        go_wp2_with fail
        go_roundg (gk - 1)
        case measure => omega
        case rel => exact ⟨k + 1, by go_num, by omega, by rw [P.out]; exact hA.out⟩
    · have hk : k = n := by omega
      subst hk
      have y1 : ¬ (k : Int) < (k : Int) := by omega
      have e : xs.take k = xs := List.take_of_length_le (by rw [HN.out]; exact Nat.le_refl _)
      rw [e] at hA
      have hpl : p.length ≤ k := by rw [← hp.out, ← HN.out]; exact plain_length xs
      rw [hp.out] at hA
      have L := Try.Builder_Len_f B b (Lib.byteCells p) wr hA.out.1
      rw [Lib.byteCells_length] at L
      have W := byte_any B b p 45 wr hA.out.1 (by omega) (by have := hA.out.2.1.size; omega)
      have W : Calls Try.prog 17 #[.pointer (some ⟨b, 0, none⟩), .int .u8 45] wr fun e w' => e = .returned .nilIface ∧ Bld B b (p ++ [45]) w' ∧ Below B wr w' ∧ Spares b wr w' := W
      clear e
      by_cases h0 : 0 < p.length
      · have M : Aside (marked p = p ++ [45]) := if_neg (by rintro rfl; simp at h0)
        have h0' : (0 : Int) < (p.length : Int) := by omega
        generalize hq : p.length = m at *
        clear h0
        go_wp2_with fail
        refine L.mono ?_; rintro e w' ⟨rfl, rfl⟩
        go_wp2_with fail
        refine W.mono ?_; rintro e w' ⟨rfl, z1, z2, z3⟩
        go_wp2_with fail
        go_ret
        rw [M.out, hq]
        exact ⟨rfl, z1, hA.out.2.1.trans z2, hA.out.2.2.trans z3⟩
      · obtain rfl : p = [] := List.eq_nil_of_length_eq_zero (by omega)
        clear W
        go_wp2_with fail
        refine L.mono ?_; rintro e w' ⟨rfl, rfl⟩
        go_wp2_with fail
        go_ret
        exact ⟨rfl, hA.out⟩
end Go.Proofs.Ythkpkohgefikeaa.puny
