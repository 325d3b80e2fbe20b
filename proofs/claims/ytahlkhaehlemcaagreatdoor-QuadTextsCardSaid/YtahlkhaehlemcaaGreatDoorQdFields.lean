/- fold.Fields at a point: a text's parts, four at most, or the place of the point behind the fourth. -/
import Derived.Test.YtahlkhaehlemcaaGreatDoorQdFell
import Derived.Test.YtahlkhaehlemcaaGreatDoorQdMath
import Derived.Test.YtahlkhaehlemcaaGreatDoorShelf
import Derived.Laws.AppendOwn
import Derived.Deep.LoopGhost
import Derived.OwnWalk
import Derived.Lib.Hide
set_option linter.unusedSimpArgs false
set_option linter.unusedVariables false
namespace Go.Proofs.YtahlkhaehlemcaaGreatDoor.qfields
open Go.RowKit Go.Proofs.YtahlkhaehlemcaaGreatDoor.errs

inductive Cut where
  | many (a : Nat)
  | parts (l : List ByteArray)
/-- The parts from a place on (so many bytes are left), where the part under way begins at f. -/
def cutFrom (s : ByteArray) : Nat → Nat → Nat → List ByteArray → Cut
  | 0, _, f, acc => .parts (acc ++ [s.extract f s.size])
  | g + 1, i, f, acc => if s.get! i = 46 then (if 4 ≤ acc.length + 1 then .many i else cutFrom s g (i + 1) (i + 1) (acc ++ [s.extract f i])) else cutFrom s g (i + 1) f acc
def cut (s : ByteArray) : Cut := cutFrom s s.size 0 0 []
theorem cut_end (s : ByteArray) (i f : Nat) (acc : List ByteArray) : cutFrom s 0 i f acc = .parts (acc ++ [s.extract f s.size]) := rfl
theorem cut_many {s : ByteArray} {g i f : Nat} {acc : List ByteArray} (h : s.get! i = 46) (h4 : 4 ≤ acc.length + 1) : cutFrom s (g + 1) i f acc = .many i := by simp only [cutFrom]; rw [if_pos h, if_pos h4]
theorem cut_part {s : ByteArray} {g i f : Nat} {acc : List ByteArray} (h : s.get! i = 46) (h4 : ¬ 4 ≤ acc.length + 1) : cutFrom s (g + 1) i f acc = cutFrom s g (i + 1) (i + 1) (acc ++ [s.extract f i]) := by simp only [cutFrom]; rw [if_pos h, if_neg h4]
theorem cut_on {s : ByteArray} {g i f : Nat} {acc : List ByteArray} (h : ¬ s.get! i = 46) : cutFrom s (g + 1) i f acc = cutFrom s g (i + 1) f acc := by simp only [cutFrom]; rw [if_neg h]

def strs (l : List ByteArray) : List Value := l.map Value.string
theorem strs_append (a : List ByteArray) (x : ByteArray) : strs (a ++ [x]) = strs a ++ [Value.string x] := by simp [strs]

def CutOut (c : Cut) (w : World) (e : Ending) (w' : World) : Prop :=
  match c with
  | .many a => Fell w e w' 15 a fun v => .tuple #[.slice none 0 0, v]
  | .parts l => ∃ v, e = .returned (.tuple #[v, .nilIface]) ∧ w'.ownsRow w.heap.size 9 1 v l.length (strs l) ∧ Below w.heap.size w w'

theorem infoStr : (Tryz.prog.info? 9).map (fun i => (i.zero, i.size, i.bytes)) = some (some (.string ⟨#[]⟩), 1, 16) := by kernel_rfl

theorem get_at (t : ByteArray) (i : Nat) (h : i < t.size) : t.get! i = t[i]'h := by
  show t.data[i]! = _
  rw [getElem!_pos t.data i h]
  rfl
theorem own_below {w w' : World} {B n : Nat} {e : TypeId} {v : Value} {xs : List Value} (h : w.ownsRow B e 1 v n xs) (hb : Below w.heap.size w w') : w'.ownsRow B e 1 v n xs := by
  refine ⟨h.1, ?_⟩
  rcases h.2 with h0 | ⟨g, cap, cur, hv, hB, hg, hr⟩
  · exact .inl h0
  · refine .inr ⟨g, cap, cur, hv, hB, ?_, hr⟩
    have hlt : g < w.heap.size := (Array.getElem?_eq_some_iff.1 hg).1
    rw [hb.block g hlt]
    exact hg
theorem clone_any (s : ByteArray) (w : World) (hs : s.size ≤ 281474976710656) :
    Calls Tryz.prog 38 #[.string s] w fun e w' => e = .returned (.string s) ∧ Below w.heap.size w w' := by
  have C := Tryz.stringslite_Clone s w hs
  go_enter Tryz.func38, Tryz.ntmps38
  go_wp2_with (go_at_call 57; refine C.mono ?_; rintro e w' ⟨rfl, hb⟩)
  go_ret
  exact ⟨rfl, hb⟩
theorem own_len {w : World} {B n : Nat} {e : TypeId} {v : Value} {xs : List Value} (h : w.ownsRow B e 1 v n xs) : ∃ a cap, v = .slice a n cap := by
  rcases h.2 with ⟨rfl, rfl⟩ | ⟨g, cap, cur, rfl, hB, hg, hn, hm, hs, ht⟩
  · exact ⟨none, 0, rfl⟩
  · exact ⟨_, cap, rfl⟩

/-- What an append of one text leaves. -/
theorem grow_one {w W w' : World} {B n : Nat} {v : Value} {xs : List Value} {x : Value} (hk : Below B w W) (hB : B ≤ W.heap.size) (ho : W.ownsRow B 9 1 v n xs)
    (hg : (W.alloc (.cells #[x] 9)).grownBy w' v.ownBlock) : Below B w w' :=
  (hk.alloc hB _).grown hg (by simp; omega) (fun q hq => (ho.lt q hq).1)

set_option maxHeartbeats 4000000 in
set_option maxRecDepth 100000 in
theorem fields_any (s : ByteArray) (w : World) (hs : s.size ≤ 1000) :
    Calls Tryz.prog 16 #[.string s, .int .u8 46, .int .i64 4] w fun e w' => CutOut (cut s) w e w' := by
  obtain ⟨res, hres⟩ : ∃ res, Hid (cut s = res) := ⟨_, rfl⟩
  rw [hres.out]
  obtain ⟨i0, hi, hz0, hz1, hz2⟩ := info_parts infoStr
  go_enter Tryz.func16, Tryz.ntmps16
  go_wp2_with fail
  go_loopg [8, 9, 10] s.size (fun g v0 v1 v2 wr => ∃ (i f : Nat) (acc : List ByteArray) (t0 : Value), t0 = v0 ∧ v1 = .int .i64 f ∧ v2 = .int .i64 i ∧ g + i = s.size ∧ f ≤ i ∧ acc.length ≤ 3 ∧ Aside (cutFrom s g i f acc = res ∧ wr.ownsRow w.heap.size 9 1 t0 acc.length (strs acc) ∧ Below w.heap.size w wr))
  case atStart => exact ⟨0, 0, [], _, rfl, rfl, rfl, by omega, by omega, by simp, hres.out, World.ownsRow_nil w _ _ _, Below.refl _ _⟩
  case round =>
    clear hres
    obtain ⟨i, f, acc, t0, rfl, rfl, rfl, hg, hf, ha, hA⟩ := hrel
    obtain ⟨a, cap, rfl⟩ := own_len hA.out.2.1
    cases gk with
    | zero =>
      have y0 : ¬ ((i : Int) < (s.size : Int)) := by omega
      have y1 : (0 : Int) ≤ (f : Int) := by omega
      have y2 : (f : Int) ≤ (s.size : Int) := by omega
      have y3 : f ≤ s.size := by omega
      have V : Aside (res = .parts (acc ++ [s.extract f s.size])) := hA.out.1.symm
      have CT := fun W => clone_any (s.extract f s.size) W (by rw [ByteArray.size_extract]; omega)
      go_wp2_with fail
      refine (CT _).mono ?_; rintro e w1 ⟨rfl, hb1⟩
      have O1 := own_below hA.out.2.1 hb1
      have k1 := hA.out.2.2.trans (hb1.mono hA.out.2.2.size)
      have Q : Aside (w1.ownsRow w.heap.size 9 1 (.slice a acc.length cap) acc.length (strs acc) ∧ Below w.heap.size w w1) := ⟨O1, k1⟩
      clear O1 k1 hb1
      go_wp2_with (at_builtin; refine wpList_append_own _ rfl _ _ 37 rfl w.heap.size 9 i0 (.string ⟨#[]⟩) 1 16 Tryz.underlying37 hi hz0 hz1 hz2 rfl (by decide) (.slice a acc.length cap) acc.length (strs acc) rfl (Q.out.1.alloc _) ⟨w1.heap.size, 0, none⟩ 1 1 [.string (s.extract f s.size)] rfl rfl ?c1 ?c2 ?c3 ?c4 ?c5 ?_)
      case c1 =>
        intro j u hj
        obtain rfl : j = 0 := by
          have := (List.getElem?_eq_some_iff.1 hj).1
          simpa using this
        rw [show (Addr.add ⟨w1.heap.size, 0, none⟩ 0 : Addr) = ⟨w1.heap.size, 0, none⟩ by simp [Addr.add], World.cell?_alloc_at _ _ _ _ rfl]
        simpa using hj
      case c2 => intro u hu; simp at hu; subst hu; rfl
      case c3 => unfold maxLen; omega
      case c4 => omega
      case c5 => have := Q.out.2.size; simp; omega
      intro v' w3 hown' hgrow _
      go_wp2_with fail
      go_ret2
      rw [V.out]
      refine ⟨v', rfl, ?_, grow_one Q.out.2 Q.out.2.size Q.out.1 hgrow⟩
      rw [strs_append, List.length_append]
      exact hown'
    | succ g =>
      have hlt : i < s.size := by omega
      have y0 : (i : Int) < (s.size : Int) := by omega
      have y1 : (0 : Int) ≤ (i : Int) := by omega
      have g0 := get_at s i hlt
      by_cases h4 : s.get! i = 46
      · have y4 : (((s[i]'hlt).toNat : Int) == 46) = true := by rw [← g0, h4]; rfl
        by_cases h5 : 4 ≤ acc.length + 1
        · have V : Aside (res = .many i) := hA.out.1.symm.trans (cut_many h4 h5)
          have y5 : (4 : Int) ≤ (acc.length : Int) + 1 := by omega
          clear h4 g0 h5
          go_wp2_with fail
          refine (fail_fell _ _ _).mono ?_; rintro e w1 ⟨bb, rfl, hF⟩
          go_wp2_with fail
          go_ret2
          rw [V.out]
          exact Fell.from (rest := fun v => .tuple #[.slice none 0 0, v]) hA.out.2.2 ⟨bb, rfl, hF.out⟩
        · have V : Aside (cutFrom s g (i + 1) (i + 1) (acc ++ [s.extract f i]) = res) := (cut_part h4 h5).symm.trans hA.out.1
          have y5 : (acc.length : Int) + 1 < 4 := by omega
          have y6 : (0 : Int) ≤ (f : Int) := by omega
          have y7 : (f : Int) ≤ (i : Int) := by omega
          have y8 : (i : Int) ≤ (s.size : Int) := by omega
          have y9 : i ≤ s.size := by omega
          have CT := fun W => clone_any (s.extract f i) W (by rw [ByteArray.size_extract]; omega)
          clear h4 g0
          go_wp2_with fail
          refine (CT _).mono ?_; rintro e w1 ⟨rfl, hb1⟩
          have O1 := own_below hA.out.2.1 hb1
          have k1 := hA.out.2.2.trans (hb1.mono hA.out.2.2.size)
          have Q : Aside (w1.ownsRow w.heap.size 9 1 (.slice a acc.length cap) acc.length (strs acc) ∧ Below w.heap.size w w1) := ⟨O1, k1⟩
          clear O1 k1 hb1
          go_wp2_with (at_builtin; refine wpList_append_own _ rfl _ _ 37 rfl w.heap.size 9 i0 (.string ⟨#[]⟩) 1 16 Tryz.underlying37 hi hz0 hz1 hz2 rfl (by decide) (.slice a acc.length cap) acc.length (strs acc) rfl (Q.out.1.alloc _) ⟨w1.heap.size, 0, none⟩ 1 1 [.string (s.extract f i)] rfl rfl ?c1 ?c2 ?c3 ?c4 ?c5 ?_)
          case c1 =>
            intro j u hj
            obtain rfl : j = 0 := by
              have := (List.getElem?_eq_some_iff.1 hj).1
              simpa using this
            rw [show (Addr.add ⟨w1.heap.size, 0, none⟩ 0 : Addr) = ⟨w1.heap.size, 0, none⟩ by simp [Addr.add], World.cell?_alloc_at _ _ _ _ rfl]
            simpa using hj
          case c2 => intro u hu; simp at hu; subst hu; rfl
          case c3 => unfold maxLen; omega
          case c4 => omega
          case c5 => have := Q.out.2.size; simp; omega
          intro v' w3 hown' hgrow _
          have N : Aside (w3.ownsRow w.heap.size 9 1 v' (acc ++ [s.extract f i]).length (strs (acc ++ [s.extract f i])) ∧ Below w.heap.size w w3) := by
            refine ⟨?_, grow_one Q.out.2 Q.out.2.size Q.out.1 hgrow⟩
            rw [strs_append, List.length_append]
            exact hown'
          clear hown' hgrow
          go_wp2_with fail
          go_roundg g
          case measure => omega
          case rel => exact ⟨i + 1, i + 1, acc ++ [s.extract f i], v', rfl, rfl, rfl, by omega, by omega, by simp; omega, V.out, N.out⟩
      · have y4 : (((s[i]'hlt).toNat : Int) == 46) = false := by
          rw [← g0]
          refine beq_eq_false_iff_ne.2 fun e => h4 ?_
          have : (s.get! i).toNat = 46 := by omega
          exact UInt8.toNat_inj.1 this
        have V : Aside (cutFrom s g (i + 1) f acc = res) := (cut_on h4).symm.trans hA.out.1
        clear h4 g0
        go_wp2_with fail
        go_roundg g
        case measure => omega
        case rel => exact ⟨i + 1, f, acc, _, rfl, rfl, rfl, by omega, by omega, ha, V.out, hA.out.2⟩
end Go.Proofs.YtahlkhaehlemcaaGreatDoor.qfields
