/- puny.Encode of characters one of which, and no other one, has to be told by numbers. -/
import Derived.Test.YthkpkohgefikeaaRounds
set_option linter.unusedSimpArgs false
set_option linter.unusedVariables false
namespace Go.Proofs.Ythkpkohgefikeaa.puny
open Go.RowKit Go.Proofs.Ythkpkohgefikeaa.build

/-- What stands while an encoding comes to be. -/
structure Enc where
  out : List UInt8
  gone : Nat
  done : Nat
  bias : Int
  later : Bool

/-- A character gone past, in the round of r. -/
def Enc.one (r : Int) (s : Enc) (c : Int) : Enc :=
  if c < r then { s with gone := s.gone + 1 }
  else if c = r then { out := s.out ++ digitsOf s.gone s.bias 36, gone := 0, done := s.done + 1, bias := adapt s.gone (s.done + 1 : Nat) !s.later, later := true }
  else s
def firstEnc (xs : List Int) (r : Int) : Enc :=
  { out := marked (plainOf xs), gone := ((r - 128) * ((plainOf xs).length + 1 : Nat)).toNat, done := (plainOf xs).length, bias := 72, later := false }
def encAt (xs : List Int) (r : Int) (j : Nat) : Enc := (xs.take j).foldl (Enc.one r) (firstEnc xs r)
theorem encAt_zero (xs : List Int) (r : Int) : encAt xs r 0 = firstEnc xs r := rfl
theorem encAt_succ (xs : List Int) (r : Int) (j : Nat) (h : j < xs.length) : encAt xs r (j + 1) = Enc.one r (encAt xs r j) (xs.getD j 0) := by
  unfold encAt
  rw [List.take_succ_eq_append_getElem h, List.foldl_append]
  simp [List.getD_eq_getElem?_getD, h]
theorem one_less {r c : Int} (s : Enc) (h : c < r) : Enc.one r s c = { s with gone := s.gone + 1 } := if_pos h
theorem one_same {r c : Int} (s : Enc) (h : c = r) : Enc.one r s c = { out := s.out ++ digitsOf s.gone s.bias 36, gone := 0, done := s.done + 1, bias := adapt s.gone (s.done + 1 : Nat) !s.later, later := true } := by
  unfold Enc.one
  rw [if_neg (by omega), if_pos h]
theorem one_more {r c : Int} (s : Enc) (h : r < c) : Enc.one r s c = s := by
  unfold Enc.one
  rw [if_neg (by omega), if_neg (by omega)]

/-- Numbers of such a size that nothing runs over. -/
def Enc.Fits (s : Enc) : Prop := s.out.length ≤ 1000000 ∧ s.gone ≤ 1099511627775 ∧ s.done ≤ 1000000 ∧ 0 ≤ s.bias ∧ s.bias ≤ 4398046511104

/-- The same in memory. -/
def EncHeld (B b q : Nat) (w0 : World) (s : Enc) (w : World) : Prop := Bld B b s.out w ∧ PaceAt q s.bias s.later w ∧ Below B w0 w

theorem heap_new (w : World) (o : Obj) : (w.alloc o).heap[w.heap.size]? = some o := by
  show (w.heap.push o)[w.heap.size]? = some o
  simp
theorem fresh_builder {B : Nat} {w0 w : World} (h : Below B w0 w) (hB : B ≤ w.heap.size) : Bld B w.heap.size [] (w.alloc (.cells #[.pointer none, .slice none 0 0] 37)) :=
  .inl ⟨hB, _, heap_new _ _, World.ownsRowF_nil _ _ _ _, by simp [Value.ownBlock]⟩

set_option maxHeartbeats 4000000 in
theorem encode_one (cb off n cap : Nat) (xs : List Int) (r : Int) (w : World) (hn : xs.length = n) (h0 : 0 < n) (hm : n ≤ 256) (hcb : cb < w.heap.size) (hc : ∀ j, j < n → w.cell? ⟨cb, off + j, none⟩ = some (.int .i64 (xs.getD j 0)))
    (hi : ∀ j, j < n → IsChar (xs.getD j 0)) (hr : roundsOf xs = [r]) (hr0 : 128 ≤ r) (hr1 : r < 1114112) (hf : ∀ j, j ≤ n → (encAt xs r j).Fits) :
    Calls Try.prog 7 #[.slice (some ⟨cb, off, none⟩) n cap] w fun e w' => e = .returned (.tuple #[.string ⟨(encAt xs r n).out.toArray⟩, .nilIface]) ∧ Below w.heap.size w w' := by
  have HC : Chars w.heap.size (some ⟨cb, off, none⟩) xs w := fun _ => ⟨cb, off, rfl, hcb, fun j hj => hc j (by omega)⟩
  have T := text_good (some ⟨cb, off, none⟩) n cap xs w hn (by omega) HC hi
  have P : ∀ w1, Below w.heap.size w w1 → Calls Try.prog 10 #[.pointer (some ⟨w1.heap.size, 0, none⟩), .slice (some ⟨cb, off, none⟩) n cap] (w1.alloc (.cells #[.pointer none, .slice none 0 0] 37)) fun e w' => e = .returned (.int .i64 (plainOf xs).length) ∧ Aside (Bld w.heap.size w1.heap.size (marked (plainOf xs)) w' ∧ Below w.heap.size w w') := by
    intro w1 hb
    have hb2 : Below w.heap.size w (w1.alloc (.cells #[.pointer none, .slice none 0 0] 37)) := hb.alloc hb.size _
    exact (plain_any w.heap.size w1.heap.size _ n cap xs _ hn (by omega) (HC.below hb2) (fun j hj => (hi j hj).1) (fresh_builder hb hb.size) hb2.size).mono fun e w' ⟨z1, z2, z3, _⟩ => ⟨z1, z2, hb2.trans z3⟩
  have R : ∀ w1, Below w.heap.size w w1 → Calls Try.prog 11 #[.slice (some ⟨cb, off, none⟩) n cap] w1 fun e w' => ∃ g c, e = .returned (.slice (some ⟨g, 0, none⟩) 1 c) ∧ Aside (w'.cell? ⟨g, 0, none⟩ = some (.int .i64 r) ∧ Below w1.heap.size w1 w') := by
    intro w1 hb
    obtain ⟨b', off', e, _, h2⟩ := HC.below hb (by omega)
    obtain ⟨rfl, rfl⟩ : cb = b' ∧ off = off' := by simpa using e
    refine (rounds_any cb off n cap xs w1 hn h0 (by omega) (fun j hj => h2 j (by omega))).mono ?_
    rintro e w' ⟨g, c, rfl, hK⟩
    rw [hr] at hK ⊢
    obtain ⟨cur, fr, k1, k2⟩ := hK.out.2.1
    refine ⟨g, c, rfl, ?_, hK.out.2.2⟩
    have := k2 0 (by simp)
    simp [World.cell?, k1]
    simpa using this
  have HH : Aside (Chars w.heap.size (some ⟨cb, off, none⟩) xs w ∧ (∀ j, j ≤ n → (encAt xs r j).Fits) ∧ xs.length = n) := ⟨HC, hf, hn⟩
  have hp : (plainOf xs).length ≤ n := by rw [← hn]; exact plain_length xs
  have S0 : Aside (encAt xs r 0 = firstEnc xs r) := encAt_zero xs r
  clear hf hi hc hcb hr HC hn
  obtain ⟨pl, hpl⟩ : ∃ pl, Hid ((plainOf xs).length = pl) := ⟨_, rfl⟩
  rw [hpl.out] at hp P
  obtain ⟨res, hres⟩ : ∃ res, Hid (encAt xs r n = res) := ⟨_, rfl⟩
  rw [hres.out]
  go_enter Try.func7, Try.ntmps7
  go_wp2_with fail
  refine T.mono ?_; rintro e w1 ⟨v, rfl, hb1⟩
  go_wp2_with fail
  refine (P w1 hb1).mono ?_; rintro e w2 ⟨rfl, hP⟩
  go_wp2_with fail
  have hb2 : Below w.heap.size w (w2.alloc (.cells #[.int .i64 72, .bool false] 40)) := hP.out.2.alloc hP.out.2.size _
  refine (R _ hb2).mono ?_; rintro e w3 ⟨g, c, rfl, hR⟩
  have E0 : Aside (EncHeld w.heap.size w1.heap.size w2.heap.size w (firstEnc xs r) w3) := by
    refine ⟨bld_below (Lib.IsBuilderF.alloc hP.out.1 _) hR.out.2, ?_, hb2.trans (hR.out.2.mono (by have := hP.out.2.size; simp; omega))⟩
    show _ = _
    rw [hR.out.2.block _ (by simp), heap_new]
    rfl
  have c3 : w3.cell? ⟨g, 0, none⟩ = some (.int .i64 r) := hR.out.1
  have hB2 : w.heap.size ≤ w2.heap.size := hP.out.2.size
  clear hb2 hb1 hR hP P T R
  have m0 : 0 ≤ (r - 128) * ((pl : Int) + 1) := Int.mul_nonneg (by omega) (by omega)
  have m1 : (r - 128) * ((pl : Int) + 1) ≤ 1113984 * 257 := Int.mul_le_mul (by omega) (by omega) (by omega) (by omega)
  go_wp2_with fail
  go_loopg [33, 9, 10, 7] 1 (fun g s33 s9 s10 s7 wr => (g = 1 ∧ s33 = .int .i64 0 ∧ s9 = .int .i64 0 ∧ s10 = .int .i64 128 ∧ s7 = .int .i64 pl ∧ w3 = wr) ∨ (g = 0 ∧ s33 = .int .i64 1 ∧ (∃ a, s9 = .int .i64 a) ∧ (∃ a, s10 = .int .i64 a) ∧ (∃ a, s7 = .int .i64 a) ∧ Aside (EncHeld w.heap.size w1.heap.size w2.heap.size w res wr)))
  case atStart => exact .inl ⟨rfl, rfl, rfl, rfl, rfl, rfl⟩
  case round =>
    rcases hrel with ⟨hg, rfl, rfl, rfl, rfl, rfl⟩ | ⟨hg, rfl, ⟨a1, rfl⟩, ⟨a2, rfl⟩, ⟨a3, rfl⟩, hE⟩
    · go_wp2_with fail
      go_loopg [47, 9, 7] n (fun g s47 s9 s7 wr => ∃ j : Nat, s47 = .int .i64 j ∧ s9 = .int .i64 (encAt xs r j).gone ∧ s7 = .int .i64 (encAt xs r j).done ∧ g + j = n ∧ Aside (EncHeld w.heap.size w1.heap.size w2.heap.size w (encAt xs r j) wr))
      case atStart =>
        refine ⟨0, rfl, ?_, ?_, rfl, by rw [S0.out]; exact E0.out⟩
        · rw [S0.out]
          unfold firstEnc
          rw [hpl.out]
          exact ret_val (by
            show (r - 128) * ((pl : Int) + 1) = ((((r - 128) * ((pl + 1 : Nat) : Int)).toNat : Nat) : Int)
            rw [show ((pl + 1 : Nat) : Int) = (pl : Int) + 1 by omega, Int.toNat_of_nonneg m0])
        · rw [S0.out]
          unfold firstEnc
          rw [hpl.out]
      case round =>
        obtain ⟨j, rfl, rfl, rfl, hj, hA⟩ := hrel
        have F := HH.out.2.1 j (by omega)
        have F2 := HH.out.2.1 (j + 1)
        obtain ⟨⟨o, gn, dn, bi, la⟩, hs⟩ : ∃ s, Hid (encAt xs r j = s) := ⟨_, rfl⟩
        rw [hs.out] at hA F
        rw [hs.out]
        dsimp only at *
        by_cases hlt : j < n
        · unfold Enc.Fits at F
          dsimp only at F
          obtain ⟨f1, f2, f3, f4, f5⟩ := F
          obtain ⟨b', off', e, hcb, hcell⟩ := (HH.out.1.below hA.out.2.2) (by rw [HH.out.2.2]; exact h0)
          obtain ⟨rfl, rfl⟩ : cb = b' ∧ off = off' := by simpa using e
          have y0 : (0 : Int) ≤ (j : Int) := by omega
          have y1 : (j : Int) < (n : Int) := by omega
          have c0 := hcell j (by rw [HH.out.2.2]; exact hlt)
          have hnext := encAt_succ xs r j (by rw [HH.out.2.2]; exact hlt)
          rw [hs.out] at hnext
          obtain ⟨x, hx⟩ : ∃ x, Hid (xs.getD j 0 = x) := ⟨_, rfl⟩
          rw [hx.out] at c0 hnext
          clear hcell e F2
          rcases (show x < r ∨ x = r ∨ r < x by omega) with hxr | hxr | hxr
          · have N : Aside (encAt xs r (j + 1) = { out := o, gone := gn + 1, done := dn, bias := bi, later := la }) := hnext.trans (one_less _ hxr)
            have hne : ¬ x = r := by omega
            clear hnext
            go_wp2_with fail
            go_roundg (gk - 1)
            case measure => omega
            case rel =>
              refine ⟨j + 1, by go_num, ?_, ?_, by omega, ?_⟩
              · rw [N.out]; go_num
              · rw [N.out]
              · rw [N.out]; exact hA.out
          · have N : Aside (encAt xs r (j + 1) = { out := o ++ digitsOf gn bi 36, gone := 0, done := dn + 1, bias := adapt gn (dn + 1 : Nat) !la, later := true }) := hnext.trans (one_same _ hxr)
            have W := write_any w.heap.size w1.heap.size w2.heap.size o gn bi la wr hA.out.1 hA.out.2.1 hA.out.2.2.size f4 f5 (by omega) (by omega)
            have Z : ∀ wz, Wr w.heap.size w1.heap.size w2.heap.size bi la wr (o ++ digitsOf gn bi 36) wz → Calls Try.prog 13 #[.pointer (some ⟨w2.heap.size, 0, none⟩), .int .i64 gn, .int .i64 ((dn : Int) + 1)] wz fun e w' => e = .returned (.tuple #[]) ∧ Aside (EncHeld w.heap.size w1.heap.size w2.heap.size w { out := o ++ digitsOf gn bi 36, gone := 0, done := dn + 1, bias := adapt gn (dn + 1 : Nat) !la, later := true } w') := by
              intro wz hz
              refine (step_any w2.heap.size gn ((dn + 1 : Nat) : Int) bi la wz hz.2.1 (by omega)).mono ?_
              rintro e w' ⟨rfl, rfl⟩
              refine ⟨rfl, bld_stepped hz.1 hz.2.1 _, hz.2.1.stepped _, ?_⟩
              have hw2 : w.heap.size ≤ w2.heap.size := hB2
              exact ((hA.out.2.2.trans hz.2.2.1).setCell hw2 _).setCell hw2 _
            clear hnext
            subst hxr
            have hnl : ¬ x < x := by omega
            go_wp2_with fail
            refine W.mono ?_; rintro e wz ⟨rfl, hz⟩
            go_wp2_with fail
            refine (Z wz hz).mono ?_; rintro e wy ⟨rfl, hy⟩
            go_wp2_with fail
            go_roundg (gk - 1)
            case measure => omega
            case rel =>
              refine ⟨j + 1, by go_num, ?_, ?_, by omega, ?_⟩
              · rw [N.out]; rfl
              · rw [N.out]; go_num
              · rw [N.out]; exact hy.out
          · have N : Aside (encAt xs r (j + 1) = { out := o, gone := gn, done := dn, bias := bi, later := la }) := hnext.trans (one_more _ hxr)
            have hne : ¬ x = r := by omega
            have hnl : ¬ x < r := by omega
            clear hnext
            go_wp2_with fail
            go_roundg (gk - 1)
            case measure => omega
            case rel =>
              refine ⟨j + 1, by go_num, ?_, ?_, by omega, ?_⟩
              · rw [N.out]
              · rw [N.out]
              · rw [N.out]; exact hA.out
        · have hjn : j = n := by omega
          subst hjn
          have hz : ¬ (j : Int) < (j : Int) := by omega
          go_wp2_with fail
          go_roundg 0
          case measure => omega
          case rel =>
            refine .inr ⟨rfl, rfl, ⟨_, rfl⟩, ⟨_, rfl⟩, ⟨_, rfl⟩, ?_⟩
            rw [← hres.out, hs.out]
            exact hA.out
    · have St := Try.Builder_String_any_k w.heap.size w1.heap.size res.out wr hE.out.1 hE.out.2.2.size
      go_wp2_with fail
      refine St.mono ?_; rintro e w' ⟨rfl, z1, z2, z3⟩
      go_wp2_with fail
      go_ret2
      exact ⟨rfl, hE.out.2.2.trans z2⟩
end Go.Proofs.Ythkpkohgefikeaa.puny
