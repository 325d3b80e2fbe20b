/- The document's own answers for layers 2 and 11: a text's parts between points; a text without the point at its end. -/
import Derived.Test.YtahlkhaehlemcaaGreatDoorRqNumber
import Derived.Test.YtahlkhaehlemcaaGreatDoorQdParse
import Derived.Laws.AppendOwn
import Derived.Laws.Strings2
set_option linter.unusedSimpArgs false
set_option linter.unusedVariables false
namespace Go.Proofs.YtahlkhaehlemcaaGreatDoor.rq
open Go.RowKit Go.Proofs.YtahlkhaehlemcaaGreatDoor.errs Go.Proofs.YtahlkhaehlemcaaGreatDoor.qmath Go.Proofs.YtahlkhaehlemcaaGreatDoor.qread Go.Proofs.YtahlkhaehlemcaaGreatDoor.qfields

theorem list_ext {a b : ByteArray} (h : a.data.toList = b.data.toList) : a = b := by
  obtain ⟨x⟩ := a
  obtain ⟨y⟩ := b
  have : x = y := Array.toList_inj.1 h
  rw [this]
theorem extract_list2 (t : ByteArray) (a b : Nat) : (t.extract a b).data.toList = (t.data.toList.drop a).take (b - a) := by
  rw [ByteArray.data_extract, Array.toList_extract]
theorem empty_part (s : ByteArray) (i : Nat) : (⟨#[]⟩ : ByteArray) = s.extract i i := by
  apply list_ext
  rw [extract_list2, Nat.sub_self, List.take_zero]
theorem part_more {s : ByteArray} {f i : Nat} (hf : f ≤ i) (hi : i < s.size) : s.extract f i ++ s.extract i (i + 1) = s.extract f (i + 1) := by
  apply list_ext
  rw [ByteArray.data_append, Array.toList_append, extract_list2, extract_list2, extract_list2]
  rw [show s.data.toList.drop i = (s.data.toList.drop f).drop (i - f) by rw [List.drop_drop]; congr 1; omega]
  rw [show i + 1 - f = (i - f) + (i + 1 - i) by omega, List.take_add]

/-- One text is put behind an owned row of texts. -/
theorem append_str {ops : Array Oper} {rest : List Oper} {o : Oper} {a : Act} {Q : Exit → Act → World → Prop} (hgd : o.guard = none) (s x : Operand)
    (ho : o.op = .call { callee := .builtin .append, args := #[s, x], argTypes := #[37, 37] })
    {w0 wr : World} (B : Nat) (v : Value) (n : Nat) (xs : List Value) (p : ByteArray) (hs : a.eval s = v) (hx : a.eval x = .slice (some ⟨wr.heap.size, 0, none⟩) 1 1)
    (hown : wr.ownsRow B 9 1 v n xs) (hbel : Below B w0 wr) (hB : B ≤ wr.heap.size) (hn : n ≤ 1000)
    (h : ∀ a2 cap2 w3, w3.ownsRow B 9 1 (.slice a2 (n + 1) cap2) (n + 1) (xs ++ [.string p]) → Below B w0 w3 → wpList Tryz.prog ops Q rest (a.put o.dst (.slice a2 (n + 1) cap2)) w3) :
    wpList Tryz.prog ops Q (o :: rest) a (wr.alloc (.cells #[.string p] 9)) := by
  obtain ⟨i0, hi, hz0, hz1, hz2⟩ := info_parts infoStr
  refine wpList_append_own _ hgd s x 37 ho B 9 i0 (.string ⟨#[]⟩) 1 16 Tryz.underlying37 hi hz0 hz1 hz2 rfl (by decide) v n xs hs (hown.alloc _) ⟨wr.heap.size, 0, none⟩ 1 1 [.string p] hx rfl (fun j u hj => ?_) (fun u hu => ?_) (by unfold maxLen; omega) (by omega) (by simp; omega) fun v' w3 h2 h3 _ => ?_
  · obtain rfl : j = 0 := by
      have := (List.getElem?_eq_some_iff.1 hj).1
      simpa using this
    rw [show (Addr.add ⟨wr.heap.size, 0, none⟩ 0 : Addr) = ⟨wr.heap.size, 0, none⟩ by simp [Addr.add], World.cell?_alloc_at _ _ _ _ rfl]
    simpa using hj
  · simp at hu; subst hu; rfl
  · obtain ⟨a2, cap2, rfl⟩ := own_len h2
    exact h a2 cap2 w3 h2 (grow_one hbel hB hown h3)

def RCutOut (c : Cut) (w : World) (e : Ending) (w' : World) : Prop :=
  match c with
  | .many a => e = .returned (.tuple #[.slice none 0 0, .int .i64 15, .int .i64 a]) ∧ Below w.heap.size w w'
  | .parts l => ∃ v, e = .returned (.tuple #[v, .int .i64 0, .int .i64 0]) ∧ w'.ownsRow w.heap.size 9 1 v l.length (strs l) ∧ Below w.heap.size w w'

set_option maxRecDepth 100000 in
set_option maxHeartbeats 4000000 in
theorem rfields_any (s : ByteArray) (w : World) (hs : s.size ≤ 1000) :
    Calls Tryz.prog 20 #[.string s, .int .u8 46, .int .i64 4] w fun e w' => RCutOut (cut s) w e w' := by
  obtain ⟨res, hres⟩ : ∃ res, Hid (cut s = res) := ⟨_, rfl⟩
  rw [hres.out]
  obtain ⟨i0, hi, hz0, hz1, hz2⟩ := info_parts infoStr
  have start : Aside ((w.alloc (.cells #[] 9)).ownsRow w.heap.size 9 1 (.slice (some ⟨w.heap.size, 0, none⟩) 0 0) 0 [] ∧ Keeps w (w.alloc (.cells #[] 9))) := ⟨World.ownsRow_lit w #[] 0 (Nat.le_refl _) (by unfold maxLen; omega) rfl, keeps_new _ _⟩
  go_enter Tryz.func20, Tryz.ntmps20
  go_wp2_with fail
  go_loopg [9, 10, 11] s.size (fun g v0 v1 v2 wr => ∃ (i f : Nat) (acc : List ByteArray) (t0 : Value) (p : ByteArray), t0 = v0 ∧ v1 = .string p ∧ v2 = .int .i64 i ∧ g + i = s.size ∧ acc.length ≤ 3 ∧ p.size ≤ i ∧ Aside (f ≤ i ∧ p = s.extract f i ∧ cutFrom s g i f acc = res ∧ wr.ownsRow w.heap.size 9 1 t0 acc.length (strs acc) ∧ Below w.heap.size w wr))
  case atStart => exact ⟨0, 0, [], _, _, rfl, rfl, rfl, by omega, by simp, Nat.zero_le _, Nat.le_refl _, empty_part s 0, hres.out, start.out.1, start.out.2⟩
  case round =>
    clear hres start
    obtain ⟨i, f, acc, t0, p, rfl, rfl, rfl, hg, ha, hp, hA⟩ := hrel
    obtain ⟨a, cap, rfl⟩ := own_len hA.out.2.2.2.1
    cases gk with
    | zero =>
      have y0 : ¬ ((i : Int) < (s.size : Int)) := by omega
      have V : Aside (res = .parts (acc ++ [p])) := by
        have := hA.out.2.2.1
        rw [cut_end, show s.size = i by omega, ← hA.out.2.1] at this
        exact this.symm
      have Q : Aside (wr.ownsRow w.heap.size 9 1 (.slice a acc.length cap) acc.length (strs acc) ∧ Below w.heap.size w wr) := hA.out.2.2.2
      clear hA
      go_wp2_with (at_builtin; refine append_str rfl _ _ rfl w.heap.size (.slice a acc.length cap) acc.length (strs acc) p rfl rfl Q.out.1 Q.out.2 Q.out.2.size (by omega) ?_; intro a2 cap2 w3 hown' G)
      go_ret3
      rw [V.out]
      refine ⟨_, rfl, ?_, G⟩
      rw [strs_append, List.length_append]
      exact hown'
    | succ g =>
      have hlt : i < s.size := by omega
      have y0 : (i : Int) < (s.size : Int) := by omega
      have y1 : (0 : Int) ≤ (i : Int) := by omega
      have be := byte_eq hlt 46
      simp only [show ((46 : UInt8).toNat : Int) = 46 from rfl] at be
      by_cases h4 : s.get! i = 46
      · rw [decide_eq_true h4] at be
        have Q : Aside (wr.ownsRow w.heap.size 9 1 (.slice a acc.length cap) acc.length (strs acc) ∧ Below w.heap.size w wr) := hA.out.2.2.2
        by_cases h5 : 4 ≤ acc.length + 1
        · have V : Aside (res = .many i) := hA.out.2.2.1.symm.trans (cut_many h4 h5)
          have y5 : ((acc.length : Int) + 1 == 4) = true := beq_iff_eq.2 (by omega)
          clear h4 h5 hA
          go_wp2_with (at_builtin; refine append_str rfl _ _ rfl w.heap.size (.slice a acc.length cap) acc.length (strs acc) p rfl rfl Q.out.1 Q.out.2 Q.out.2.size (by omega) ?_; intro a2 cap2 w3 hown' G)
          go_ret3
          rw [V.out]
          exact ⟨rfl, G⟩
        · have V : Aside (cutFrom s g (i + 1) (i + 1) (acc ++ [p]) = res) := by
            have := hA.out.2.2.1
            rw [cut_part h4 h5, ← hA.out.2.1] at this
            exact this
          have y5 : ((acc.length : Int) + 1 == 4) = false := beq_eq_false_iff_ne.2 (by omega)
          clear h4 hA
          go_wp2_with (at_builtin; refine append_str rfl _ _ rfl w.heap.size (.slice a acc.length cap) acc.length (strs acc) p rfl rfl Q.out.1 Q.out.2 Q.out.2.size (by omega) ?_; intro a2 cap2 w3 hown' G)
          have N : Aside (w3.ownsRow w.heap.size 9 1 (.slice a2 (acc.length + 1) cap2) (acc ++ [p]).length (strs (acc ++ [p])) ∧ Below w.heap.size w w3) := by
            refine ⟨?_, G⟩
            rw [strs_append, List.length_append]
            exact hown'
          clear hown' G
          go_roundg g
          case measure => omega
          case rel => exact ⟨i + 1, i + 1, acc ++ [p], _, _, rfl, rfl, rfl, by omega, by simp; omega, Nat.zero_le _, Nat.le_refl _, empty_part s (i + 1), V.out, N.out⟩
      · rw [decide_eq_false h4] at be
        have V : Aside (cutFrom s g (i + 1) f acc = res) := (cut_on h4).symm.trans hA.out.2.2.1
        have hcat : Hid (p ++ s.extract i (i + 1) = s.extract f (i + 1)) := by
          have := part_more hA.out.1 hlt
          rw [← hA.out.2.1] at this
          exact this
        have hsz : (p ++ s.extract i (i + 1)).size ≤ i + 1 := by rw [ByteArray.size_append, ByteArray.size_extract]; omega
        have hps : (p.size : Int) ≤ 1000 := by omega
        have hes : ((s.extract i (i + 1)).size : Int) ≤ 1000 := by rw [ByteArray.size_extract]; omega
        have y2 : (i : Int) + 1 ≤ (s.size : Int) := by omega
        have y3 : (i : Int) ≤ (i : Int) + 1 := by omega
        have y4 : ((i : Int) + 1).toNat = i + 1 := by omega
        clear h4
        go_wp2_with fail
        go_roundg g
        case measure => omega
        case rel => exact ⟨i + 1, f, acc, _, _, rfl, rfl, rfl, by omega, ha, hsz, by have := hA.out.1; omega, hcat.out, V.out, hA.out.2.2.2⟩

/-- The text without the point at its end, as the document has it. -/
theorem rcut_any (s : ByteArray) (hs : s.size ≤ 1000000) (w : World) : Calls Tryz.prog 21 #[.string s] w fun e w' => e = .returned (.string (unended s)) ∧ w = w' := by
  by_cases h : 1 < s.size
  · have y0 : (1 : Int) < (s.size : Int) := by omega
    have y1 : (0 : Int) ≤ (s.size : Int) - 1 := by omega
    have y2 : (s.size : Int) - 1 < (s.size : Int) := by omega
    have y3 : (s.size : Int) - 1 ≤ (s.size : Int) := by omega
    have y4 : ((s.size : Int) - 1).toNat = s.size - 1 := by omega
    have hl : s.size - 1 < s.size := by omega
    have be := byte_eq hl 46
    simp only [show ((46 : UInt8).toNat : Int) = 46 from rfl] at be
    have hlast : s.data.toList = s.data.toList.take (s.size - 1) ++ [s.get! (s.size - 1)] := by
      conv => lhs; rw [← List.take_append_drop (s.size - 1) s.data.toList]
      rw [drop_at hl, drop_end (by omega)]
    by_cases e : s.get! (s.size - 1) = 46
    · rw [decide_eq_true e] at be
      have hu : unended s = s.extract 0 (s.size - 1) := by
        apply list_ext
        unfold unended
        rw [if_pos h, extract_list2, List.drop_zero, Nat.sub_zero]
        show Lib.trimSuffix s.data.toList [46] = _
        unfold Lib.trimSuffix Lib.hasSuffix
        rw [if_pos (List.isSuffixOf_iff_suffix.2 ⟨_, by rw [← e]; exact hlast.symm⟩)]
        simp
      rw [hu]
      clear hlast e hu
      go_enter Tryz.func21, Tryz.ntmps21
      go_wp2_with fail
      go_ret
      exact ⟨rfl, rfl⟩
    · rw [decide_eq_false e] at be
      have hu : unended s = s := by
        apply list_ext
        unfold unended
        rw [if_pos h]
        show Lib.trimSuffix s.data.toList [46] = _
        unfold Lib.trimSuffix Lib.hasSuffix
        rw [if_neg]
        intro q
        obtain ⟨l, hl2⟩ := List.isSuffixOf_iff_suffix.1 q
        rw [hlast] at hl2
        have := (List.append_inj' hl2 rfl).2
        exact e (by simpa using this.symm)
      rw [hu]
      clear hlast e hu
      go_enter Tryz.func21, Tryz.ntmps21
      go_wp2_with fail
      go_ret
      exact ⟨rfl, rfl⟩
  · have y0 : ¬ (1 : Int) < (s.size : Int) := by omega
    have hu : unended s = s := by unfold unended; rw [if_neg h]
    rw [hu]
    go_enter Tryz.func21, Tryz.ntmps21
    go_wp2_with fail
    go_ret
    exact ⟨rfl, rfl⟩
end Go.Proofs.YtahlkhaehlemcaaGreatDoor.rq
