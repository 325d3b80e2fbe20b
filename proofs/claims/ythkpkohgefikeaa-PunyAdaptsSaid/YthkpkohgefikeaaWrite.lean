/- A number's digits, written into a builder of texts. -/
import Derived.Test.YthkpkohgefikeaaPace
import Derived.Test.YthkpkohgefikeaaBuild
set_option linter.unusedSimpArgs false
set_option linter.unusedVariables false
namespace Go.Proofs.Ythkpkohgefikeaa.puny
open Go.RowKit Go.Proofs.Ythkpkohgefikeaa.build

/-- A builder keeps what it holds where blocks are laid, and where others than its own are turned. -/
theorem bld_below {B b : Nat} {l : List UInt8} {w w' : World} (h : Bld B b l w) (hb : Below w.heap.size w w') : Bld B b l w' := by
  have key : ∀ p, Lib.BuilderAtF 37 5 B b p (Lib.byteCells l) w → Lib.BuilderAtF 37 5 B b p (Lib.byteCells l) w' := by
    rintro p ⟨hB, v, hbk, hown, hne⟩
    have hlt : b < w.heap.size := (Array.getElem?_eq_some_iff.1 hbk).1
    refine ⟨hB, v, (hb.block b hlt).trans hbk, hown.kept (row := none) ⟨hb.os, hb.tape, hb.output, hb.size, fun k hk _ => hb.block k hk⟩ ?_, hne⟩
    cases v.ownBlock <;> simp
  exact h.elim (fun x => .inl (key _ x)) (fun x => .inr (key _ x))
theorem bld_lt {B b : Nat} {l : List UInt8} {w : World} (h : Bld B b l w) : B ≤ b ∧ b < w.heap.size ∧ w.shape? b = some (37, 2) := by
  rcases h with h | h
  all_goals exact ⟨h.1, h.lt, h.shape⟩
theorem pace_ne {B b q : Nat} {l : List UInt8} {bias : Int} {later : Bool} {w : World} (h : Bld B b l w) (hp : PaceAt q bias later w) : q ≠ b := by
  rintro rfl
  have h2 := (bld_lt h).2.2
  unfold PaceAt at hp
  simp [World.shape?, hp] at h2
theorem pace_rest {b q : Nat} {bias : Int} {later : Bool} {w w' : World} (hp : PaceAt q bias later w) (hr : Spares b w w') (hq : q ≠ b) : PaceAt q bias later w' :=
  hr q _ hp (fun e => hq (Option.some.inj e)) (fun c fz e => by simp at e)
theorem grown_set (w : World) (p : Addr) (v : Value) : w.grownBy (w.setCell p v) (some p.block) :=
  ⟨rfl, rfl, rfl, by simp [World.setCell], fun k _ hk => Below.heap_setCell _ _ _ _ (fun e => hk (by rw [e]))⟩
theorem bld_set {B b q : Nat} {l : List UInt8} {w : World} (h : Bld B b l w) (hp : w.shape? q = some (40, 2)) (j : Nat) (v : Value) : Bld B b l (w.setCell ⟨q, j, none⟩ v) := by
  obtain ⟨cur, fz, hq⟩ : ∃ cur fz, w.heap[q]? = some (.cells cur 40 fz) := by
    unfold World.shape? at hp
    split at hp
    · rename_i c t fz he
      obtain ⟨rfl, -⟩ : t = 40 ∧ _ := by simpa using hp
      exact ⟨c, fz, he⟩
    all_goals simp at hp
  have key : ∀ p, Lib.BuilderAtF 37 5 B b p (Lib.byteCells l) w → Lib.BuilderAtF 37 5 B b p (Lib.byteCells l) (w.setCell ⟨q, j, none⟩ v) := by
    rintro p ⟨hB, u, hbk, hown, hne⟩
    have hqb : b ≠ q := by
      rintro rfl
      rw [hbk] at hq
      simp at hq
    refine ⟨hB, u, (Below.heap_setCell _ _ _ _ hqb).trans hbk, hown.kept (grown_set w ⟨q, j, none⟩ v) (.inr ?_), hne⟩
    exact Lib.ownBlock_neF hown hq (by decide)
  exact h.elim (fun x => .inl (key _ x)) (fun x => .inr (key _ x))
theorem pace_shape {q : Nat} {bias : Int} {later : Bool} {w : World} (hp : PaceAt q bias later w) : w.shape? q = some (40, 2) := by
  unfold PaceAt at hp
  simp [World.shape?, hp]
theorem pace_set0 {q : Nat} {bias : Int} {later : Bool} {w : World} (h : PaceAt q bias later w) (b : Int) : PaceAt q b later (w.setCell ⟨q, 0, none⟩ (.int .i64 b)) := by
  unfold PaceAt at *
  simp [World.setCell, Array.getElem?_modify, h]
theorem bld_stepped {B b q : Nat} {l : List UInt8} {bias : Int} {later : Bool} {w : World} (h : Bld B b l w) (hp : PaceAt q bias later w) (x : Int) : Bld B b l ((w.setCell ⟨q, 0, none⟩ (.int .i64 x)).setCell ⟨q, 1, none⟩ (.bool true)) :=
  bld_set (bld_set h (pace_shape hp) _ _) (pace_shape (pace_set0 hp x)) _ _

/-- A digit's letter. -/
def letter (n : Nat) : UInt8 := if n < 26 then UInt8.ofNat (97 + n) else UInt8.ofNat (22 + n)
theorem lettersAt : ∀ n : Fin 36, (#[97, 98, 99, 100, 101, 102, 103, 104, 105, 106, 107, 108, 109, 110, 111, 112, 113, 114, 115, 116, 117, 118, 119, 120, 121, 122, 48, 49, 50, 51, 52, 53, 54, 55, 56, 57] : Array UInt8)[n.1]! = letter n.1 := by decide

/-- A number's digits, for the bounds from k on. -/
def digitsOf (n : Nat) (bias : Int) (k : Nat) : List UInt8 :=
  if n < (bound k bias).toNat then [letter n]
  else letter ((bound k bias).toNat + (n - (bound k bias).toNat) % (36 - (bound k bias).toNat)) :: digitsOf ((n - (bound k bias).toNat) / (36 - (bound k bias).toNat)) bias (k + 36)
termination_by n
decreasing_by
  rename_i h3
  have hr := bound_range k bias
  exact Nat.lt_of_le_of_lt (Nat.div_le_self _ _) (by omega)

theorem digit_run (n : Nat) (h : n < 36) (w : World) : Sem.run Try.prog (Instr.index 9 (.string ⟨#[97, 98, 99, 100, 101, 102, 103, 104, 105, 106, 107, 108, 109, 110, 111, 112, 113, 114, 115, 116, 117, 118, 119, 120, 121, 122, 48, 49, 50, 51, 52, 53, 54, 55, 56, 57]⟩) (.int .i64 n)) w = .ok (.int .u8 (letter n).toNat) w := by
  rw [run_index_string w _ _ _ _ Try.underlying9]
  rw [dif_pos ⟨by omega, by simp [ByteArray.size]; omega⟩]
  have e := lettersAt ⟨n, h⟩
  rw [getElem!_pos _ _ (by simpa using h)] at e
  rw [← e]
  rfl

theorem digits_last {n : Nat} {bias : Int} {k t : Nat} (ht : bound k bias = t) (h : n < t) : digitsOf n bias k = [letter n] := by
  rw [digitsOf, ht, Int.toNat_natCast, if_pos h]
theorem digits_more {n : Nat} {bias : Int} {k t : Nat} (ht : bound k bias = t) (h : ¬ n < t) : digitsOf n bias k = letter (t + (n - t) % (36 - t)) :: digitsOf ((n - t) / (36 - t)) bias (k + 36) := by
  rw [digitsOf, ht, Int.toNat_natCast, if_neg h]

/-- What stands while a number is written. -/
def Wr (B b q : Nat) (bias : Int) (later : Bool) (w : World) (l : List UInt8) (wr : World) : Prop :=
  Bld B b l wr ∧ PaceAt q bias later wr ∧ Below B w wr ∧ Spares b w wr

set_option maxHeartbeats 2000000 in
theorem write_any (B b q : Nat) (l : List UInt8) (n : Nat) (bias : Int) (later : Bool) (w : World) (h : Bld B b l w) (hp : PaceAt q bias later w) (hB : B ≤ w.heap.size)
    (h0 : 0 ≤ bias) (h1 : bias ≤ 4398046511104) (hn : n ≤ 1099511627776) (hl : l.length ≤ 1099511627776) :
    Calls Try.prog 12 #[.pointer (some ⟨q, 0, none⟩), .pointer (some ⟨b, 0, none⟩), .int .i64 n] w fun e w' => e = .returned (.tuple #[]) ∧ Wr B b q bias later w (l ++ digitsOf n bias 36) w' := by
  obtain ⟨L, hL⟩ : ∃ L, Hid (l ++ digitsOf n bias 36 = L) := ⟨_, rfl⟩
  rw [hL.out]
  have H : Aside (Wr B b q bias later w l w) := ⟨h, hp, Below.refl _ _, Lib.OthersKept.refl _ _ _⟩
  have hne := pace_ne h hp
  clear h hp
  go_enter Try.func12, Try.ntmps12
  go_wp2_with fail
  go_loopg [2, 6] n (fun g t s wr => ∃ (m k : Nat) (l' : List UInt8), t = .int .i64 m ∧ s = .int .i64 k ∧ g = m ∧ Aside (l' ++ digitsOf m bias k = L ∧ Wr B b q bias later w l' wr ∧ l'.length + m ≤ 2199023255552 ∧ k + 36 * m ≤ 39582418599972 ∧ m ≤ 1099511627776))
  case atStart => exact ⟨n, 36, l, rfl, rfl, rfl, hL.out, H.out, by omega, by omega, hn⟩
  case round =>
    obtain ⟨m, k, l', rfl, rfl, hg, hA⟩ := hrel
    obtain ⟨e1, ⟨e2, e3, e4, e5⟩, e6, e7, e8⟩ := hA.out
    obtain ⟨t, ht⟩ : ∃ t : Nat, Hid (bound k bias = t) := ⟨(bound k bias).toNat, by have := bound_range k bias; show _ = _; omega⟩
    have ht1 : 1 ≤ t := by have := bound_range k bias; rw [ht.out] at this; omega
    have ht2 : t ≤ 26 := by have := bound_range k bias; rw [ht.out] at this; omega
    have C := bound_any q k bias wr e3.cell0 h0 h1 (by omega) (by omega)
    rw [ht.out] at C
    by_cases hmt : m < t
    · have D := digit_run m (by omega) wr
      have W := byte_any B b l' (letter m) wr e2 (by omega) (by have := e4.size; omega)
      have hd := digits_last ht.out hmt
      generalize letter m = c at *
      have G : Aside (l' ++ [c] = L ∧ PaceAt q bias later wr ∧ Below B w wr ∧ Spares b w wr) := ⟨by rw [← hd]; exact e1, e3, e4, e5⟩
      clear hA e1 e2 e3 e4 e5 e6 hd
      go_wp2_with fail
      refine C.mono ?_; rintro e w' ⟨rfl, rfl⟩
      go_wp2_with fail
      refine W.mono ?_; rintro e w' ⟨rfl, z1, z2, z3⟩
      go_wp2_with fail
      (try simp only [Exit.inBlock, Exit.then]); refine bodyPost_ret (results_none rfl _ _ _) rfl ?_
      rw [← G.out.1]
      exact ⟨rfl, z1, pace_rest G.out.2.1 z3 hne, G.out.2.2.1.trans z2, G.out.2.2.2.trans z3⟩
    · obtain ⟨d, hd⟩ : ∃ d : Nat, Hid (t + (m - t) % (36 - t) = d) := ⟨_, rfl⟩
      obtain ⟨r, hr⟩ : ∃ r : Nat, Hid ((m - t) / (36 - t) = r) := ⟨_, rfl⟩
      have hmod := Nat.mod_lt (m - t) (show 36 - t > 0 by omega)
      have hdiv := Nat.div_le_self (m - t) (36 - t)
      have i1 : ((m : Int) - (t : Int)) % (36 - (t : Int)) = ((d - t : Nat) : Int) := by
        rw [show ((m : Int) - (t : Int)) = ((m - t : Nat) : Int) by omega, show (36 - (t : Int)) = ((36 - t : Nat) : Int) by omega, ← Int.natCast_emod, ← hd.out]
        omega
      have i2 : ((m : Int) - (t : Int)) / (36 - (t : Int)) = (r : Int) := by
        rw [show ((m : Int) - (t : Int)) = ((m - t : Nat) : Int) by omega, show (36 - (t : Int)) = ((36 - t : Nat) : Int) by omega, ← Int.natCast_ediv, hr.out]
      have d1 : t ≤ d := by rw [← hd.out]; omega
      have d2 : d < 36 := by rw [← hd.out]; omega
      have hd3 := digits_more ht.out hmt
      rw [hd.out, hr.out] at hd3
      have r1 : r < m := by rw [← hr.out]; omega
      have D := digit_run d d2 wr
      have D : Sem.run Try.prog (Instr.index 9 (.string ⟨#[97, 98, 99, 100, 101, 102, 103, 104, 105, 106, 107, 108, 109, 110, 111, 112, 113, 114, 115, 116, 117, 118, 119, 120, 121, 122, 48, 49, 50, 51, 52, 53, 54, 55, 56, 57]⟩) (.int .i64 ((t : Int) + ((d - t : Nat) : Int)))) wr = .ok (.int .u8 (letter d).toNat) wr := by
        rw [show ((t : Int) + ((d - t : Nat) : Int)) = (d : Int) by omega]; exact D
      have W := byte_any B b l' (letter d) wr e2 (by omega) (by have := e4.size; omega)
      generalize letter d = c at *
      have G : Aside (l' ++ [c] ++ digitsOf r bias (k + 36) = L ∧ PaceAt q bias later wr ∧ Below B w wr ∧ Spares b w wr) := ⟨by rw [← e1, hd3]; simp, e3, e4, e5⟩
      generalize hx : d - t = x at *
      clear hA e1 e2 e3 e4 e5 hd3 hmod hdiv
      go_wp2_with fail
      refine C.mono ?_; rintro e w' ⟨rfl, rfl⟩
      go_wp2_with fail
      refine W.mono ?_; rintro e w' ⟨rfl, z1, z2, z3⟩
      go_wp2_with fail
      go_roundg r
      case measure => omega
      case rel =>
        exact ⟨r, k + 36, l' ++ [c], by go_num, by go_num, rfl, G.out.1, ⟨z1, pace_rest G.out.2.1 z3 hne, G.out.2.2.1.trans z2, G.out.2.2.2.trans z3⟩, by rw [List.length_append, List.length_singleton]; omega, by omega, by omega⟩
end Go.Proofs.Ythkpkohgefikeaa.puny
