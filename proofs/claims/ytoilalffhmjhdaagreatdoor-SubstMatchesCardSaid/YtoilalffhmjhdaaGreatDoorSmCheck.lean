/- The document's own Check and Names. -/
import Derived.Test.YtoilalffhmjhdaaGreatDoorSmParts
import Derived.Test.YtoilalffhmjhdaaGreatDoorSvClass
set_option linter.unusedSimpArgs false
set_option linter.unusedVariables false
namespace Go.Proofs.YtoilalffhmjhdaaGreatDoor.subst
open Go.RowKit Go.Proofs.YtoilalffhmjhdaaGreatDoor.errs Go.Proofs.YtoilalffhmjhdaaGreatDoor.rows Go.Proofs.YtoilalffhmjhdaaGreatDoor.utf Go.Proofs.YtoilalffhmjhdaaGreatDoor.glref Go.Proofs.YtoilalffhmjhdaaGreatDoor.gmath Go.Proofs.YtoilalffhmjhdaaGreatDoor.chars

theorem rcSize_nonneg (o : Option Nat) : 0 ≤ rcSize o := by
  cases o with
  | none => exact Int.le_refl 0
  | some k =>
    show 0 ≤ if 5 < k then (2 : Int) else 1
    split <;> decide

set_option maxRecDepth 100000 in
set_option maxHeartbeats 8000000 in
theorem rscheck_any (s : ByteArray) (vs : List Vr) (v : Value) (w : World) (hs : s.size ≤ 1000000) (hv : VarsIn w v vs) (hvn : vs.length ≤ 1000000) :
    Calls Tryz.prog 7 #[.string s, v] w fun e w' => e = .returned (.tuple #[.int .i64 (checkS s.data.toList vs).1, .int .i64 (checkS s.data.toList vs).2]) ∧ Below w.heap.size w w' := by
  obtain ⟨va, vc, rfl⟩ := hv.form
  have hl : s.data.toList.length = s.size := Array.length_toList
  have RC := rcheck_any s hs w
  have HV := Lib.hid hv
  obtain ⟨r, hr⟩ : ∃ r, Hid (checkS s.data.toList vs = r) := ⟨_, rfl⟩
  rw [hr.out]
  have hr := hr.out
  unfold checkS at hr
  rw [T_of] at hr
  obtain ⟨vn, hvl⟩ : ∃ vn, Hid (vs.length = vn) := ⟨_, rfl⟩
  rw [hvl.out]
  clear hv
  cases hok : decide ((checkOf s).1 = 0) with
  | false =>
    have h0 := of_decide_eq_false hok
    rw [if_neg h0] at hr
    have hn0 : ((checkOf s).1 != 0) = true := by rw [bne_iff_ne]; exact h0
    have HR := Lib.hid hr
    clear hr hok h0 hl
    generalize checkOf s = c at *
    obtain ⟨c1, c2⟩ := c
    go_enter Tryz.func7, Tryz.ntmps7
    go_wp2_with fail
    refine RC.mono ?_; rintro e w1 ⟨rfl, hb⟩
    have K1 := Lib.hid hb
    clear hb RC
    go_wp2_with fail
    go_ret2
    exact ⟨by rw [← HR.out]; rfl, K1.out⟩
  | true =>
    have h0 := of_decide_eq_true hok
    rw [if_pos h0] at hr
    rw [h0] at RC
    have HR : Hid (partsBad (knownV vs) (Pf s.data.toList 0) = r) := hr
    have HL := Lib.hid hl
    clear hr hok h0 hl
    generalize (checkOf s).2 = c2 at *
    go_enter Tryz.func7, Tryz.ntmps7
    go_wp2_with fail
    refine RC.mono ?_; rintro e w1 ⟨rfl, hb⟩
    have K1 := Lib.hid hb
    clear hb RC
    go_wp2_with fail
    go_loopg [8] s.size (fun g t wr => ∃ a : Nat, t = .int .i64 a ∧ g + a = s.size ∧ Hid (partsBad (knownV vs) (Pf s.data.toList a) = r ∧ Below w.heap.size w wr))
    case atStart => exact ⟨0, rfl, rfl, HR.out, K1.out⟩
    case round =>
      clear HR K1
      obtain ⟨a, rfl, hg, hA⟩ := hrel
      have N := rnext_any s a (by omega) hs wr
      have hal : a ≤ s.data.toList.length := by rw [HL.out]; omega
      by_cases hi : nextI s.data.toList a < s.data.toList.length
      · by_cases hj : nextJ s.data.toList (nextI s.data.toList a) < s.data.toList.length
        · rw [nextV_var hi hj] at N
          have B := hA.out.1
          rw [bad_var (knownV vs) hal hi hj] at B
          have CN := cut_name s (nextI s.data.toList a) hj (by have := hj; unfold nextJ at this; rw [HL.out] at this; omega)
          have q0 : a ≤ nextI s.data.toList a := Nat.le_add_right _ _
          have q1 : nextI s.data.toList a + 2 ≤ nextJ s.data.toList (nextI s.data.toList a) := Nat.le_add_right _ _
          have q2 : nextJ s.data.toList (nextI s.data.toList a) < s.size := by rw [← HL.out]; exact hj
          have KN : knownV vs (nameAt s.data.toList (nextI s.data.toList a)) = ((findVr vs (T (nameAt s.data.toList (nextI s.data.toList a)))).isSome || isOwn (nameAt s.data.toList (nextI s.data.toList a))) := rfl
          have C := fun w => rclass_any (nameAt s.data.toList (nextI s.data.toList a)) w
          have F := Lib.hid fun (V : World) (hV : Below w.heap.size w V) => rfind_any vs _ (T (nameAt s.data.toList (nextI s.data.toList a))) V (HV.out.below hV) (by omega)
          rw [hvl.out] at F
          have own := rcSize_own (nameAt s.data.toList (nextI s.data.toList a))
          have sz0 := rcSize_nonneg (rcIdx (nameAt s.data.toList (nextI s.data.toList a)))
          clear hi hj
          generalize nextJ s.data.toList (nextI s.data.toList a) = J at *
          generalize nameAt s.data.toList (nextI s.data.toList a) = nm at *
          generalize nextI s.data.toList a = I at *
          generalize rcChars (rcIdx nm) = ch at *
          generalize rcSize (rcIdx nm) = sz at *
          generalize findVr vs (T nm) = fv at *
          generalize isOwn nm = q at *
          have v0 : (0 : Int) ≤ (I : Int) := by omega
          have v1 : (0 : Int) ≤ (J : Int) := by omega
          rw [KN] at B
          have B := Lib.hid B
          have own := Lib.hid own
          clear KN
          go_wp2_with fail
          refine N.mono ?_; rintro e w2 ⟨rfl, rfl⟩
          clear N
          go_wp2_with fail
          refine (C _).mono ?_; rintro e w3 ⟨rfl, hb⟩
          have K3 : Hid (Below w.heap.size w w3) := hA.out.2.trans (hb.mono hA.out.2.size)
          clear hb C
          have F3 := F.out w3 K3.out
          cases fv with
          | none =>
            go_wp2_with fail
            refine F3.mono ?_; rintro e w4 ⟨rfl, rfl⟩
            clear F3
            by_cases hq : sz = 0
            · subst hq
              have hqf : q = false := by rw [← own.out]; rfl
              have HR : Hid (r = (30, (I : Int))) := by
                have := B.out
                rw [hqf] at this
                exact this.symm
              clear hqf B
              go_wp2_with fail
              go_ret2
              exact ⟨by rw [HR.out]; rfl, K3.out⟩
            · have hz : (sz == 0) = false := beq_eq_false_iff_ne.2 hq
              by_cases hp : 0 < sz
              · have hqt : q = true := by rw [← own.out]; exact decide_eq_true hp
                have NX : Hid (partsBad (knownV vs) (Pf s.data.toList (J + 1)) = r ∧ Below w.heap.size w w4) := by
                  have := B.out
                  rw [hqt] at this
                  exact ⟨this, K3.out⟩
                clear hqt B hq hp hA
                go_wp2_with fail
                go_roundg (s.size - (J + 1))
                case measure => omega
                case rel => exact ⟨J + 1, by go_num, by omega, NX⟩
              · omega
          | some x =>
            go_wp2_with fail
            refine F3.mono ?_; rintro e w4 ⟨sv, rfl, hS, rfl⟩
            clear F3 hS
            have NX : Hid (partsBad (knownV vs) (Pf s.data.toList (J + 1)) = r ∧ Below w.heap.size w w4) := by
              have := B.out
              exact ⟨this, K3.out⟩
            clear B hA
            by_cases hq : sz = 0
            · subst hq
              go_wp2_with fail
              go_roundg (s.size - (J + 1))
              case measure => omega
              case rel => exact ⟨J + 1, by go_num, by omega, NX⟩
            · have hz : (sz == 0) = false := beq_eq_false_iff_ne.2 hq
              clear hq
              go_wp2_with fail
              go_roundg (s.size - (J + 1))
              case measure => omega
              case rel => exact ⟨J + 1, by go_num, by omega, NX⟩
        · rw [nextV_open hi hj] at N
          have B := hA.out.1
          rw [bad_open (knownV vs) hal hi hj] at B
          have HR := Lib.hid B
          have KE := Lib.hid hA.out.2
          clear hi hj hA B hal
          generalize nextI s.data.toList a = I at *
          have v0 : (0 : Int) ≤ (I : Int) := by omega
          go_wp2_with fail
          refine N.mono ?_; rintro e w2 ⟨rfl, rfl⟩
          clear N
          go_wp2_with fail
          go_ret2
          exact ⟨by rw [← HR.out]; rfl, KE.out⟩
      · rw [nextV_none hi] at N
        have B := hA.out.1
        rw [bad_stop (knownV vs) hal hi] at B
        have HR := Lib.hid B
        have KE := Lib.hid hA.out.2
        clear hi hA B hal
        go_wp2_with fail
        refine N.mono ?_; rintro e w2 ⟨rfl, rfl⟩
        clear N
        go_wp2_with fail
        go_ret2
        exact ⟨by rw [← HR.out]; rfl, KE.out⟩
end Go.Proofs.YtoilalffhmjhdaaGreatDoor.subst
