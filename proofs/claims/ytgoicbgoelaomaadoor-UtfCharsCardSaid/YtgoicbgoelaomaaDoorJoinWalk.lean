/- The walk of the law on joined bytes: it returns true, and what was there stays. -/
import Derived.Test.YtgoicbgoelaomaaDoorSpeaks
import Derived.Test.YtgoicbgoelaomaaDoorCalm
import Derived.Test.YtgoicbgoelaomaaDoorJoinMath
import Derived.Test.YtgoicbgoelaomaaDoorRefText
import Derived.Laws.AppendOwnNone
import Derived.Deep.QuietTactic
import Derived.BigQuiet
set_option linter.unusedSimpArgs false
set_option linter.unusedVariables false
namespace Go.Proofs.YtgoicbgoelaomaaDoor.utfJoined
open Go.RowKit Go.Proofs.YtgoicbgoelaomaaDoor.errs Go.Proofs.YtgoicbgoelaomaaDoor.utf Go.Proofs.YtgoicbgoelaomaaDoor.umath Go.Proofs.YtgoicbgoelaomaaDoor.text Go.Proofs.YtgoicbgoelaomaaDoor.ref Go.Proofs.YtgoicbgoelaomaaDoor.chars

/-- What a source of append holds. -/
def Source (w : World) (a : Option Addr) (len cap : Nat) (news : List Value) : Prop :=
  (a = none ∧ len = 0 ∧ cap = 0) ∨ ∃ ad, a = some ad ∧ ∀ (j : Nat) u, news[j]? = some u → w.cell? (ad.add j) = some u

theorem append_any {w : World} {ops : Array Oper} {rest : List Oper} {o : Oper} {a : Act} {Q : Exit → Act → World → Prop} (hgd : o.guard = none) (s x : Operand)
    (ho : o.op = .call { callee := .builtin .append, args := #[s, x], argTypes := #[31, 31] })
    (base : Nat) (i : TypeInfo) (hi : Tryd.prog.info? 5 = some i) (hz : i.zero = some (.int .u8 0)) (hsize : i.size = 1) (hby : i.bytes = 1)
    (v : Value) (n : Nat) (xs : List Value) (hs : a.eval s = v) (hown : w.ownsRow base 5 1 v n xs)
    (src : Option Addr) (m c : Nat) (news : List Value) (hx : a.eval x = .slice src m c) (hsrc : Source w src m c news) (hl : news.length = m) (h1 : ∀ u ∈ news, u.oneCell' = true)
    (h63 : n + m ≤ maxLen) (hbytes : (n + m) * 1 ≤ 140737488355328) (hbase : base ≤ w.heap.size)
    (h : ∀ v' w', w'.ownsRow base 5 1 v' (n + m) (xs ++ news) → w.grownBy w' v.ownBlock → wpList Tryd.prog ops Q rest (a.put o.dst v') w') : wpList Tryd.prog ops Q (o :: rest) a w := by
  rcases hsrc with ⟨rfl, rfl, rfl⟩ | ⟨ad, rfl, hc⟩
  · obtain rfl : news = [] := List.length_eq_zero_iff.1 hl
    refine wpList_append_own_none hgd s x 31 ho base 5 i 1 Tryd.underlying31 hi v n xs hs hown hx ?_
    exact h v w (by simpa using hown) ⟨rfl, rfl, rfl, Nat.le_refl _, fun _ _ _ => rfl⟩
  · exact wpList_append_own _ hgd s x 31 ho base 5 i (.int .u8 0) 1 1 Tryd.underlying31 hi hz hsize hby rfl (by decide) v n xs hs hown ad m c news hx (by rw [hl, Nat.mul_one]) hc h1 h63 hbytes hbase fun v' w' h2 h3 _ => h v' w' h2 h3

theorem source_of_row {w : World} {a : Option Addr} {len cap : Nat} {zs : List Int} (h : frame.IsRow .u8 w a len cap zs) :
    ∃ ms : List Int, ms.length = len ∧ (∀ y ∈ ms, 0 ≤ y ∧ y ≤ 255) ∧ Source w a len cap (cellsOf ms) ∧ Sl w (.slice a len cap) (frame.bytesOf ms) := by
  have hsl := (frame.sl_of_row h).1
  rcases h with ⟨rfl, rfl, rfl, rfl⟩ | ⟨x, rfl, hl, hm, hz, hc, hw⟩
  · exact ⟨[], rfl, by simp, .inl ⟨rfl, rfl, rfl⟩, hsl⟩
  · refine ⟨zs.take len, by rw [List.length_take]; omega, fun y hy => frame.wf_u8 (hw y (List.mem_of_mem_take hy)), .inr ⟨x, rfl, fun j u hu => ?_⟩, hsl⟩
    unfold cellsOf at hu
    rw [List.getElem?_map, List.getElem?_take] at hu
    split at hu
    · rename_i hj
      rw [hc j (by omega)]
      rw [List.getElem?_eq_getElem (by omega)] at hu
      simp only [Option.map_some, Option.some.injEq] at hu
      rw [← hu, List.getD_eq_getElem?_getD, List.getElem?_eq_getElem (by omega)]
      simp
    · simp at hu

theorem chars_any (s : ByteArray) (v : Value) (w : World) (hT : Tabs w) (hv : Sl w v s) (hz : s.size ≤ 1000000) :
    Calls Tryd.prog 18 #[v] w fun e w' => CharsOut s (firstBad s) w e w' := by
  cases h : firstBad s with
  | none => have := chars_good s v w hT hv h hz; rwa [h] at this
  | some i => have := chars_bad s i v w hT hv h; rwa [h] at this

theorem out_good {s : ByteArray} {w : World} (e : Ending) (w' : World) (h : CharsOut s none w e w') :
    ∃ b c, e = .returned (.tuple #[.slice b (all s).length c, .nilIface]) ∧ Keeps w w' := by
  obtain ⟨v, h1, h2, h3⟩ := h
  obtain ⟨b, c, rfl, -⟩ := own_open h2
  exact ⟨b, c, h1, h3⟩
theorem out_bad {s : ByteArray} {i : Nat} {w : World} (e : Ending) (w' : World) (h : CharsOut s (some i) w e w') :
    ∃ bb, e = .returned (.tuple #[.slice none 0 0, .iface 59 (.pointer (some ⟨bb, 0, none⟩))]) ∧ Aside (FaultAt w' (.iface 59 (.pointer (some ⟨bb, 0, none⟩))) 12 i .nilIface ∧ Keeps w w') :=
  Failed.opened e w' h
theorem out_any {s : ByteArray} {o : Option Nat} {w : World} (e : Ending) (w' : World) (h : CharsOut s o w e w') :
    ∃ z g, e = .returned (.tuple #[z, g]) ∧ Keeps w w' := by
  cases o with
  | none => obtain ⟨b, c, h1, h2⟩ := out_good e w' h; exact ⟨_, _, h1, h2⟩
  | some i => obtain ⟨bb, h1, h2⟩ := out_bad e w' h; exact ⟨_, _, h1, h2.out.2⟩

theorem from_length (s : ByteArray) : ∀ g i, (from_ s g i).length ≤ g
  | 0, i => by simp [from_]
  | g + 1, i => by
    by_cases h : i < s.size
    · rw [from_step s g i h, List.length_cons]; have := from_length s g (i + (Utf8.decode s i).2); omega
    · rw [from_end s _ i (by omega)]; simp
theorem scan_lt (s : ByteArray) : ∀ g i k, scan s g i = some k → k < s.size
  | 0, i, k, h => by simp [scan] at h
  | g + 1, i, k, h => by
    by_cases hi : i < s.size
    · cases hc : charAt s i with
      | true => rw [scan_step s g i hi hc] at h; exact scan_lt s g _ k h
      | false => rw [scan_bad s g i hi hc] at h; simp at h; omega
    · rw [scan_end s _ i (by omega)] at h; simp at h
theorem all_length (s : ByteArray) : (all s).length ≤ s.size := from_length s _ _

set_option maxRecDepth 100000 in
set_option maxHeartbeats 8000000 in
theorem law (a1 : Option Addr) (len1 cap1 : Nat) (zs1 : List Int) (a2 : Option Addr) (len2 cap2 : Nat) (zs2 : List Int) (w : World) (r1 : frame.IsRow .u8 w a1 len1 cap1 zs1) (r2 : frame.IsRow .u8 w a2 len2 cap2 zs2) (hH : Tabs w ∧ Laid w) :
    Calls Tryd.prog 9 #[.slice a1 len1 cap1, .slice a2 len2 cap2] w fun e w' => e = .returned (.bool true) ∧ Below w.heap.size w w' := by
  have S := speaks_any w hH.1 hH.2
  obtain ⟨ms, hm1, hm2, hm3, hm4⟩ := source_of_row r1
  obtain ⟨ns, hn1, hn2, hn3, hn4⟩ := source_of_row r2
  have H : Aside (Tabs w ∧ Laid w) := hH
  have HM : Aside (ms.length = len1 ∧ ns.length = len2 ∧ ∀ y ∈ ms ++ ns, 0 ≤ y ∧ y ≤ 255) := ⟨hm1, hn1, fun y hy => (List.mem_append.1 hy).elim (hm2 y) (hn2 y)⟩
  have HS : Aside (Source w a1 len1 cap1 (cellsOf ms) ∧ Source w a2 len2 cap2 (cellsOf ns)) := ⟨hm3, hn3⟩
  have HV : Aside (Sl w (.slice a1 len1 cap1) (frame.bytesOf ms) ∧ Sl w (.slice a2 len2 cap2) (frame.bytesOf ns)) := ⟨hm4, hn4⟩
  clear hH r1 r2 hm1 hm2 hm3 hm4 hn1 hn2 hn3 hn4 zs1 zs2
  obtain ⟨i0, hi, hz0, hz1, hz2⟩ := info_parts infoByte
  by_cases hbig : 1000 < len1
  · have x1 : (1000 : Int) < (len1 : Int) := by omega
    clear hbig
    go_enter Tryd.func9, Tryd.ntmps9
    go_wp2_with fail
    refine S.mono ?_; rintro e w1 ⟨rfl, hb1⟩
    go_wp2_with fail
    go_ret
    exact ⟨rfl, hb1⟩
  by_cases hbig2 : 1000 < len2
  · have x1 : (len1 : Int) ≤ 1000 := by omega
    have x2 : (1000 : Int) < (len2 : Int) := by omega
    clear hbig hbig2
    go_enter Tryd.func9, Tryd.ntmps9
    go_wp2_with fail
    refine S.mono ?_; rintro e w1 ⟨rfl, hb1⟩
    go_wp2_with fail
    go_ret
    exact ⟨rfl, hb1⟩
  have x1 : (len1 : Int) ≤ 1000 := by omega
  have x2 : (len2 : Int) ≤ 1000 := by omega
  have q1 : (frame.bytesOf ms).size = len1 := by rw [frame.bytesOf_size, HM.out.1]
  have q2 : (frame.bytesOf ns).size = len2 := by rw [frame.bytesOf_size, HM.out.2.1]
  have q3 : (frame.bytesOf (ms ++ ns)).size ≤ 1000000 := by rw [frame.bytesOf_size, List.length_append, HM.out.1, HM.out.2.1]; omega
  have CA : ∀ w', Keeps w w' → Calls Tryd.prog 18 #[.slice a1 len1 cap1] w' fun e w'' => CharsOut (frame.bytesOf ms) (firstBad (frame.bytesOf ms)) w' e w'' := fun w' hk => chars_any _ _ w' (H.out.1.below hk (Nat.le_refl _)) (HV.out.1.below hk) (by omega)
  have CB : ∀ w', Keeps w w' → Calls Tryd.prog 18 #[.slice a2 len2 cap2] w' fun e w'' => CharsOut (frame.bytesOf ns) (firstBad (frame.bytesOf ns)) w' e w'' := fun w' hk => chars_any _ _ w' (H.out.1.below hk (Nat.le_refl _)) (HV.out.2.below hk) (by omega)
  have CZ : ∀ B v w', Keeps w w' → w'.ownsRow B 5 1 v (ms ++ ns).length (cellsOf (ms ++ ns)) → Calls Tryd.prog 18 #[v] w' fun e w'' => CharsOut (frame.bytesOf (ms ++ ns)) (firstBad (frame.bytesOf (ms ++ ns))) w' e w'' := fun B v w' hk ho => chars_any _ _ w' (H.out.1.below hk (Nat.le_refl _)) (sl_of_own ho HM.out.2.2) q3
  have J := fun h => joined (frame.bytesOf ms) (frame.bytesOf ns) (frame.bytesOf (ms ++ ns)) h (head_bytesOf ms ns) (tail_bytesOf ms ns)
  rw [q1] at J
  clear hbig hbig2 q1 q2 q3
  cases hA : firstBad (frame.bytesOf ms) with
  | some i =>
    rw [hA] at CA
    have DA := fun w' hk => (CA w' hk).mono out_bad
    have DB := fun w' hk => (CB w' hk).mono out_any
    have DZ := fun B v w' hk ho => (CZ B v w' hk ho).mono out_any
    clear J hA CA CB CZ
    generalize frame.bytesOf ms = sa at *
    generalize frame.bytesOf ns = sb at *
    generalize frame.bytesOf (ms ++ ns) = sc at *
    go_enter Tryd.func9, Tryd.ntmps9
    go_wp2_with fail
    refine S.mono ?_; rintro e w1 ⟨rfl, hb1⟩
    go_wp2_with fail
    refine (DA w1 hb1).mono ?_; rintro e w2 ⟨ba, rfl, hFa⟩
    have K2 : Keeps w w2 := (show Keeps w w1 from hb1).step hFa.out.2
    clear hb1
    go_wp2_with fail
    refine (DB w2 K2).mono ?_; rintro e w3 ⟨y, f, rfl, k3⟩
    have K3 : Aside (Keeps w w3) := K2.step k3
    clear K2 k3
    go_wp2_with (at_builtin; refine append_any rfl _ _ rfl w3.heap.size i0 hi hz0 hz1 hz2 (.slice (some ⟨w3.heap.size, 0, none⟩) 0 0) 0 [] rfl (World.ownsRow_lit w3 #[] 0 (Nat.le_refl _) (by unfold maxLen; omega) rfl) a1 len1 cap1 (cellsOf ms) rfl ?c0 ?c1 ?c3 ?c4 ?c5 ?c6 ?_)
    case c0 =>
      rcases HS.out.1 with h | ⟨ad, h1, h2⟩
      · exact .inl h
      · refine .inr ⟨ad, h1, fun j u hu => ?_⟩
        have h3 := h2 j u hu
        have h4 := (K3.out.cell (lt_of_cell h3)).trans h3
        rw [World.cell?_alloc_lt _ _ _ (lt_of_cell h4)]
        exact h4
    case c1 => rw [cellsOf_length, HM.out.1]
    case c3 => intro u hu; obtain ⟨y, -, rfl⟩ := List.mem_map.1 hu; rfl
    case c4 => unfold maxLen; omega
    case c5 => omega
    case c6 => simp
    intro v4 w4 hown4 hgrow4
    have N4 : Aside (w4.ownsRow w3.heap.size 5 1 v4 len1 (cellsOf ms) ∧ Keeps w3 w4) :=
      ⟨owns_cast hown4 (by omega) (by simp), ((Below.refl w3.heap.size w3).alloc (Nat.le_refl _) _).grown hgrow4 (by simp) (fun q hq => by simp [Value.ownBlock] at hq; omega)⟩
    clear hown4 hgrow4
    go_wp2_with (at_builtin; refine append_any rfl _ _ rfl w3.heap.size i0 hi hz0 hz1 hz2 v4 len1 (cellsOf ms) rfl N4.out.1 a2 len2 cap2 (cellsOf ns) rfl ?c0 ?c1 ?c3 ?c4 ?c5 ?c6 ?_)
    case c0 =>
      rcases HS.out.2 with h | ⟨ad, h1, h2⟩
      · exact .inl h
      · refine .inr ⟨ad, h1, fun j u hu => ?_⟩
        have h3 := h2 j u hu
        exact ((K3.out.step N4.out.2).cell (lt_of_cell h3)).trans h3
    case c1 => rw [cellsOf_length, HM.out.2.1]
    case c3 => intro u hu; obtain ⟨y, -, rfl⟩ := List.mem_map.1 hu; rfl
    case c4 => unfold maxLen; omega
    case c5 => omega
    case c6 => exact N4.out.2.size
    intro v5 w5 hown5 hgrow5
    have N5 : Aside (w5.ownsRow w3.heap.size 5 1 v5 (ms ++ ns).length (cellsOf (ms ++ ns)) ∧ Keeps w3 w5) :=
      ⟨owns_cast hown5 (by rw [List.length_append, HM.out.1, HM.out.2.1]) (by rw [cellsOf_append]), N4.out.2.grown hgrow5 N4.out.2.size (fun q hq => (N4.out.1.lt q hq).1)⟩
    clear hown5 hgrow5 N4
    have K5 : Aside (Keeps w w5) := K3.out.step N5.out.2
    go_wp2_with fail
    refine (DZ _ _ _ K5.out N5.out.1).mono ?_; rintro e w6 ⟨z, g, rfl, k6⟩
    have K6 : Aside (Keeps w w6) := K5.out.step k6
    go_wp2_with fail
    go_ret
    exact ⟨rfl, K6.out⟩
  | none =>
    rw [hA] at CA
    have DA := fun w' hk => (CA w' hk).mono out_good
    obtain ⟨J1, J2⟩ := J hA
    clear J hA
    rw [J1] at CZ
    cases hB : firstBad (frame.bytesOf ns) with
    | some i =>
      rw [hB] at CB CZ
      have DB := fun w' hk => (CB w' hk).mono out_bad
      have DZ := fun B v w' hk ho => (CZ B v w' hk ho).mono out_bad
      have z1 : i ≤ 1000 := by have := scan_lt _ _ _ _ hB; rw [frame.bytesOf_size, HM.out.2.1] at this; omega
      have z2 : (i : Int) ≤ 1000 := by omega
      have z3 : (0 : Int) ≤ (i : Int) := by omega
      clear hB J1 J2 CB CZ CA z1
      generalize (all (frame.bytesOf ms)).length = na at *
      go_enter Tryd.func9, Tryd.ntmps9
      go_wp2_with fail
      refine S.mono ?_; rintro e w1 ⟨rfl, hb1⟩
      go_wp2_with fail
      refine (DA w1 hb1).mono ?_; rintro e w2 ⟨b1, c1, rfl, k2⟩
      have K2 : Keeps w w2 := (show Keeps w w1 from hb1).step k2
      clear hb1 k2
      go_wp2_with fail
      refine (DB w2 K2).mono ?_; rintro e w3 ⟨bf, rfl, hF⟩
      have K3 : Aside (Keeps w w3) := K2.step hF.out.2
      clear K2
      go_wp2_with (at_builtin; refine append_any rfl _ _ rfl w3.heap.size i0 hi hz0 hz1 hz2 (.slice (some ⟨w3.heap.size, 0, none⟩) 0 0) 0 [] rfl (World.ownsRow_lit w3 #[] 0 (Nat.le_refl _) (by unfold maxLen; omega) rfl) a1 len1 cap1 (cellsOf ms) rfl ?c0 ?c1 ?c3 ?c4 ?c5 ?c6 ?_)
      case c0 =>
        rcases HS.out.1 with h | ⟨ad, h1, h2⟩
        · exact .inl h
        · refine .inr ⟨ad, h1, fun j u hu => ?_⟩
          have h3 := h2 j u hu
          have h4 := (K3.out.cell (lt_of_cell h3)).trans h3
          rw [World.cell?_alloc_lt _ _ _ (lt_of_cell h4)]
          exact h4
      case c1 => rw [cellsOf_length, HM.out.1]
      case c3 => intro u hu; obtain ⟨y, -, rfl⟩ := List.mem_map.1 hu; rfl
      case c4 => unfold maxLen; omega
      case c5 => omega
      case c6 => simp
      intro v4 w4 hown4 hgrow4
      have N4 : Aside (w4.ownsRow w3.heap.size 5 1 v4 len1 (cellsOf ms) ∧ Keeps w3 w4) :=
        ⟨owns_cast hown4 (by omega) (by simp), ((Below.refl w3.heap.size w3).alloc (Nat.le_refl _) _).grown hgrow4 (by simp) (fun q hq => by simp [Value.ownBlock] at hq; omega)⟩
      clear hown4 hgrow4
      go_wp2_with (at_builtin; refine append_any rfl _ _ rfl w3.heap.size i0 hi hz0 hz1 hz2 v4 len1 (cellsOf ms) rfl N4.out.1 a2 len2 cap2 (cellsOf ns) rfl ?c0 ?c1 ?c3 ?c4 ?c5 ?c6 ?_)
      case c0 =>
        rcases HS.out.2 with h | ⟨ad, h1, h2⟩
        · exact .inl h
        · refine .inr ⟨ad, h1, fun j u hu => ?_⟩
          have h3 := h2 j u hu
          exact ((K3.out.step N4.out.2).cell (lt_of_cell h3)).trans h3
      case c1 => rw [cellsOf_length, HM.out.2.1]
      case c3 => intro u hu; obtain ⟨y, -, rfl⟩ := List.mem_map.1 hu; rfl
      case c4 => unfold maxLen; omega
      case c5 => omega
      case c6 => exact N4.out.2.size
      intro v5 w5 hown5 hgrow5
      have N5 : Aside (w5.ownsRow w3.heap.size 5 1 v5 (ms ++ ns).length (cellsOf (ms ++ ns)) ∧ Keeps w3 w5) :=
        ⟨owns_cast hown5 (by rw [List.length_append, HM.out.1, HM.out.2.1]) (by rw [cellsOf_append]), N4.out.2.grown hgrow5 N4.out.2.size (fun q hq => (N4.out.1.lt q hq).1)⟩
      clear hown5 hgrow5 N4
      have K5 : Aside (Keeps w w5) := K3.out.step N5.out.2
      go_wp2_with fail
      refine (DZ _ _ _ K5.out N5.out.1).mono ?_; rintro e w6 ⟨bg, rfl, hG⟩
      have K6 : Aside (Keeps w w6) := K5.out.step hG.out.2
      have G6 := hG.out.1
      have F6 : FaultAt w6 (.iface 59 (.pointer (some ⟨bf, 0, none⟩))) 12 i .nilIface := (hF.out.1.below N5.out.2 (Nat.le_refl _)).below hG.out.2 (Nat.le_refl _)
      have L6 : Laid w6 := H.out.2.below K6.out (Nat.le_refl _)
      have A1 : ∀ w', Keeps w6 w' → Calls Tryd.prog 15 #[.iface 59 (.pointer (some ⟨bg, 0, none⟩)), .int .i64 12] w' fun e w'' => e = .returned (.bool true) ∧ w' = w'' := fun w' h => has_keeps (G6.chain .nil) (by decide) h
      have A2 : ∀ w', Keeps w6 w' → Calls Tryd.prog 14 #[.iface 59 (.pointer (some ⟨bg, 0, none⟩))] w' fun e w' => e = .returned (.int .i64 ((len1 : Int) + (i : Int))) ∧ Keeps w6 w' := fun w' h => by have := at_keeps L6 G6 h; rwa [Int.natCast_add] at this
      have A3 : ∀ w', Keeps w6 w' → Calls Tryd.prog 14 #[.iface 59 (.pointer (some ⟨bf, 0, none⟩))] w' fun e w' => e = .returned (.int .i64 i) ∧ Keeps w6 w' := fun w' h => at_keeps L6 F6 h
      clear G6 F6 L6
      go_wp2_with fail
      refine (A1 _ (Keeps.refl _)).mono ?_; rintro e w' ⟨rfl, rfl⟩
      go_wp2_with fail
      refine (A2 _ (Keeps.refl _)).mono ?_; rintro e w7 ⟨rfl, k7⟩
      go_wp2_with fail
      refine (A3 _ k7).mono ?_; rintro e w8 ⟨rfl, k8⟩
      go_wp2_with fail
      go_ret
      exact ⟨rfl, K6.out.step k8⟩
    | none =>
      rw [hB] at CB CZ
      have DB := fun w' hk => (CB w' hk).mono out_good
      have DZ := fun B v w' hk ho => (CZ B v w' hk ho).mono out_good
      have J3 : (all (frame.bytesOf (ms ++ ns))).length = (all (frame.bytesOf ms)).length + (all (frame.bytesOf ns)).length := by rw [J2, List.length_append]
      rw [J3] at DZ
      clear hB J1 J2 J3 CB CZ CA
      have y1 : (all (frame.bytesOf ms)).length ≤ 1000 := by have := all_length (frame.bytesOf ms); rw [frame.bytesOf_size, HM.out.1] at this; omega
      have y2 : (all (frame.bytesOf ns)).length ≤ 1000 := by have := all_length (frame.bytesOf ns); rw [frame.bytesOf_size, HM.out.2.1] at this; omega
      generalize (all (frame.bytesOf ms)).length = na at *
      generalize (all (frame.bytesOf ns)).length = nb at *
      have y3 : ((na + nb : Nat) : Int) = (na : Int) + (nb : Int) := by omega
      go_enter Tryd.func9, Tryd.ntmps9
      go_wp2_with fail
      refine S.mono ?_; rintro e w1 ⟨rfl, hb1⟩
      go_wp2_with fail
      refine (DA w1 hb1).mono ?_; rintro e w2 ⟨b1, c1, rfl, k2⟩
      have K2 : Keeps w w2 := (show Keeps w w1 from hb1).step k2
      clear hb1 k2
      go_wp2_with fail
      refine (DB w2 K2).mono ?_; rintro e w3 ⟨b2, c2, rfl, k3⟩
      have K3 : Aside (Keeps w w3) := K2.step k3
      clear K2 k3
      go_wp2_with (at_builtin; refine append_any rfl _ _ rfl w3.heap.size i0 hi hz0 hz1 hz2 (.slice (some ⟨w3.heap.size, 0, none⟩) 0 0) 0 [] rfl (World.ownsRow_lit w3 #[] 0 (Nat.le_refl _) (by unfold maxLen; omega) rfl) a1 len1 cap1 (cellsOf ms) rfl ?c0 ?c1 ?c3 ?c4 ?c5 ?c6 ?_)
      case c0 =>
        rcases HS.out.1 with h | ⟨ad, h1, h2⟩
        · exact .inl h
        · refine .inr ⟨ad, h1, fun j u hu => ?_⟩
          have h3 := h2 j u hu
          have h4 := (K3.out.cell (lt_of_cell h3)).trans h3
          rw [World.cell?_alloc_lt _ _ _ (lt_of_cell h4)]
          exact h4
      case c1 => rw [cellsOf_length, HM.out.1]
      case c3 => intro u hu; obtain ⟨y, -, rfl⟩ := List.mem_map.1 hu; rfl
      case c4 => unfold maxLen; omega
      case c5 => omega
      case c6 => simp
      intro v4 w4 hown4 hgrow4
      have N4 : Aside (w4.ownsRow w3.heap.size 5 1 v4 len1 (cellsOf ms) ∧ Keeps w3 w4) :=
        ⟨owns_cast hown4 (by omega) (by simp), ((Below.refl w3.heap.size w3).alloc (Nat.le_refl _) _).grown hgrow4 (by simp) (fun q hq => by simp [Value.ownBlock] at hq; omega)⟩
      clear hown4 hgrow4
      go_wp2_with (at_builtin; refine append_any rfl _ _ rfl w3.heap.size i0 hi hz0 hz1 hz2 v4 len1 (cellsOf ms) rfl N4.out.1 a2 len2 cap2 (cellsOf ns) rfl ?c0 ?c1 ?c3 ?c4 ?c5 ?c6 ?_)
      case c0 =>
        rcases HS.out.2 with h | ⟨ad, h1, h2⟩
        · exact .inl h
        · refine .inr ⟨ad, h1, fun j u hu => ?_⟩
          have h3 := h2 j u hu
          exact ((K3.out.step N4.out.2).cell (lt_of_cell h3)).trans h3
      case c1 => rw [cellsOf_length, HM.out.2.1]
      case c3 => intro u hu; obtain ⟨y, -, rfl⟩ := List.mem_map.1 hu; rfl
      case c4 => unfold maxLen; omega
      case c5 => omega
      case c6 => exact N4.out.2.size
      intro v5 w5 hown5 hgrow5
      have N5 : Aside (w5.ownsRow w3.heap.size 5 1 v5 (ms ++ ns).length (cellsOf (ms ++ ns)) ∧ Keeps w3 w5) :=
        ⟨owns_cast hown5 (by rw [List.length_append, HM.out.1, HM.out.2.1]) (by rw [cellsOf_append]), N4.out.2.grown hgrow5 N4.out.2.size (fun q hq => (N4.out.1.lt q hq).1)⟩
      clear hown5 hgrow5 N4
      have K5 : Aside (Keeps w w5) := K3.out.step N5.out.2
      go_wp2_with fail
      refine (DZ _ _ _ K5.out N5.out.1).mono ?_; rintro e w6 ⟨b3, c3, rfl, k6⟩
      have K6 : Aside (Keeps w w6) := K5.out.step k6
      go_wp2_with fail
      go_ret
      exact ⟨rfl, K6.out⟩
end Go.Proofs.YtgoicbgoelaomaaDoor.utfJoined
