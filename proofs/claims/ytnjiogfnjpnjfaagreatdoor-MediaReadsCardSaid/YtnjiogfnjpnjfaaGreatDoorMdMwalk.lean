/- The law on kinds of content that are read: for any input it returns true. -/
import Derived.Test.YtnjiogfnjpnjfaaGreatDoorMdSpeaks
import Derived.Test.YtnjiogfnjpnjfaaGreatDoorMdText
import Derived.Test.YtnjiogfnjpnjfaaGreatDoorMdSame
set_option linter.unusedSimpArgs false
set_option linter.unusedVariables false
namespace Go.Proofs.YtnjiogfnjpnjfaaGreatDoor.mediaReads
open Go.RowKit Go.Proofs.YtnjiogfnjpnjfaaGreatDoor.errs Go.Proofs.YtnjiogfnjpnjfaaGreatDoor.media

theorem parL_length (p : It) (h1 : p.name.size ≤ 100) (h2 : p.value.size ≤ 1000) : (parL id [] [32] [] p).length ≤ 2200 := by
  rw [← oneL_eq]
  have hw := wr_length p.value.data.toList
  have e1 : p.value.data.toList.length = p.value.size := Array.length_toList
  have e2 : (oneL p).data.toList.length = (oneL p).size := Array.length_toList
  rw [e2]
  unfold oneL
  rw [ByteArray.size_append, ByteArray.size_append, ByteArray.size_append, T_size]
  show 2 + _ + 1 + _ ≤ _
  omega
theorem parsL_bound : ∀ ps : List It, (∀ p ∈ ps, p.name.size ≤ 100 ∧ p.value.size ≤ 1000) → (parsL id [] [32] [] ps).length ≤ ps.length * 2200
  | [], _ => Nat.le_refl _
  | p :: ps, h => by
    have h1 := parL_length p (h p List.mem_cons_self).1 (h p List.mem_cons_self).2
    have h2 := parsL_bound ps (fun q hq => h q (List.mem_cons_of_mem _ hq))
    unfold parsL at h2 ⊢
    rw [List.flatMap_cons, List.length_append, List.length_cons]
    omega
theorem text_bound {s t u : ByteArray} {ps : List It} (h : mediaOf s = .good t u ps) : (textL t u ps).length ≤ 20000 := by
  obtain ⟨h1, h2, h3, h4⟩ := good_sizes h
  have hp := parsL_bound ps h4
  rw [textL_eq, List.length_append, List.length_append, List.length_cons]
  have e1 : t.data.toList.length = t.size := Array.length_toList
  have e2 : u.data.toList.length = u.size := Array.length_toList
  omega
theorem text_back {s t u : ByteArray} {ps : List It} (h : mediaOf s = .good t u ps) (hl : (T (textL t u ps)).size ≤ 1000) : mediaOf (T (textL t u ps)) = .good t u ps :=
  media_back h (U := id) (pre := []) (a := []) (b := [32]) (c := []) (fun x hx => hx.same) (fun x hx => by cases hx) (fun x hx => by cases hx) (fun x hx => by obtain rfl := List.mem_singleton.1 hx; decide) (fun x hx => by cases hx) hl

/-- A block that holds a kind of content. -/
def Box (w : World) (g : Nat) (t u : ByteArray) (v : Value) : Prop := w.cell? ⟨g, 0, none⟩ = some (.string t) ∧ w.cell? ⟨g, 1, none⟩ = some (.string u) ∧ w.cell? ⟨g, 2, none⟩ = some v
theorem Box.new (w : World) (t u : ByteArray) (v : Value) (ty : TypeId) : Box (w.alloc (.cells #[.string t, .string u, v] ty)) w.heap.size t u v :=
  ⟨by rw [World.cell?_alloc_at _ _ _ _ rfl]; rfl, by rw [World.cell?_alloc_at _ _ _ _ rfl]; rfl, by rw [World.cell?_alloc_at _ _ _ _ rfl]; rfl⟩
theorem Box.below {w w' : World} {g : Nat} {t u : ByteArray} {v : Value} (h : Box w g t u v) (hb : Below w.heap.size w w') : Box w' g t u v :=
  ⟨(hb.cell (p := ⟨g, 0, none⟩) (lt_of_cell h.1)).trans h.1, (hb.cell (p := ⟨g, 1, none⟩) (lt_of_cell h.2.1)).trans h.2.1, (hb.cell (p := ⟨g, 2, none⟩) (lt_of_cell h.2.2)).trans h.2.2⟩
theorem up (w : World) (o : Obj) : Below w.heap.size w (w.alloc o) := (Below.refl _ _).alloc (Nat.le_refl _) _
theorem chain {a b c : World} (h1 : Below a.heap.size a b) (h2 : Below b.heap.size b c) : Below a.heap.size a c := h1.trans (h2.mono h1.size)

set_option maxRecDepth 100000 in
set_option maxHeartbeats 4000000 in
theorem main (s : ByteArray) (hs : s.size ≤ 1500) (w : World) (hH : Laid w) :
    Calls Tryz.prog 3 #[.string s] w fun e w' => e = .returned (.bool true) ∧ Below w.heap.size w w' := by
  have S := speaks_any w
  have P := fun w => parse_any s (by omega) w
  have R := fun w => rparse_any s (by omega) w
  have TA : ∀ w, Calls Tryz.prog 9 #[.string s] w fun e w' => e = .returned (.bool (isTok s)) ∧ Below w.heap.size w w' := fun w => by
    have := token_any s.data.toList (by rw [Array.length_toList]; show s.size ≤ _; omega) w
    rwa [T_of] at this
  have TR := fun w => rtoken_any s (by omega) w
  have x1 : ¬ (1500 : Int) < (s.size : Int) := by omega
  have HL := Lib.hid hH
  have nq : (isTok s != isTok s) = false := by rw [bne_eq_false_iff_eq]
  generalize isTok s = q at *
  cases ho : mediaOf s with
  | bad k a =>
    rw [ho] at P R
    have hk := bad_known s k a ho
    simp only [MediaOut, RMediaOut, tOf, uOf, psOf, kOf, ErrIs] at P R
    clear hH ho
    go_enter Tryz.func3, Tryz.ntmps3
    go_wp2_with fail
    refine S.mono ?_; rintro e w1 ⟨rfl, hb⟩
    have K1 := Lib.hid hb
    clear hb S
    go_wp2_with fail
    refine (P _).mono ?_; rintro e w2 ⟨ad, n, c, x, rfl, hI, hx, hb⟩
    have K2 : Hid (Below w.heap.size w w2) := chain K1.out hb
    have L2 : Hid (Laid w2) := HL.out.below K2.out (Nat.le_refl _)
    have F2 := Lib.hid hx
    obtain ⟨fb, rfl, -⟩ := hx
    have I2 := Lib.hid hI.in
    have hn0 := hI.in.len.1
    simp at hn0
    subst hn0
    have B2 : Hid (Box (w2.alloc (.cells #[.string ⟨#[]⟩, .string ⟨#[]⟩, .slice ad 0 c] 25)) w2.heap.size ⟨#[]⟩ ⟨#[]⟩ (.slice ad 0 c)) := Box.new _ _ _ _ _
    clear hb K1 hI HL P
    go_wp2_with fail
    refine (R _).mono ?_; rintro e w3 ⟨ad2, n2, c2, rfl, hI, hb⟩
    have K3 : Hid (Keeps w2 w3) := chain (up _ _) hb
    have I3 := Lib.hid hI.in
    have hn0 := hI.in.len.1
    simp at hn0
    subst hn0
    have B3 := Lib.hid (B2.out.below hb)
    clear hb hI B2 R
    have K4 : Hid (Keeps w2 (w3.alloc (.cells #[.string ⟨#[]⟩, .string ⟨#[]⟩, .slice ad2 0 c2] 25))) := chain K3.out (up _ _)
    obtain ⟨d0, d1, d2⟩ := B3.out.below (up w3 (.cells #[.string ⟨#[]⟩, .string ⟨#[]⟩, .slice ad2 0 c2] 25))
    have CS := same_is ⟨#[]⟩ ⟨#[]⟩ ad ad2 0 c c2 [] _ (I2.out.below K4.out) (I3.out.below (up w3 (.cells #[.string ⟨#[]⟩, .string ⟨#[]⟩, .slice ad2 0 c2] 25))) (by omega)
    clear I2 I3 B3
    go_wp2_with fail
    refine CS.mono ?_; rintro e w4 ⟨rfl, hb⟩
    have K5 : Hid (Keeps w2 w4) := chain K4.out hb
    clear hb d0 d1 d2 CS K3 K4
    have CK := kind_keeps L2.out F2.out K5.out
    go_wp2_with fail
    refine CK.mono ?_; rintro e w5 ⟨rfl, hb⟩
    have K6 := Lib.hid hb
    clear hb CK K5
    go_wp2_with fail
    refine (TA _).mono ?_; rintro e w6 ⟨rfl, hb⟩
    have K7 : Hid (Keeps w2 w6) := chain K6.out hb
    clear hb K6
    go_wp2_with fail
    refine (TR _).mono ?_; rintro e w7 ⟨rfl, rfl⟩
    have CA := at_keeps L2.out F2.out K7.out
    have CA2 := fun W (hW : Keeps w2 W) => at_keeps L2.out F2.out hW
    go_wp2_with fail
    refine CA.mono ?_; rintro e w8 ⟨rfl, hb⟩
    have K8 := Lib.hid hb
    have CA3 := CA2 w8 hb
    clear hb CA CA2 K7 L2 F2
    rcases hk with ⟨rfl, rfl⟩ | ⟨rfl, rfl⟩ | ⟨rfl, rfl⟩ | ⟨rfl, rfl⟩
    · go_wp2_with fail
      refine CA3.mono ?_; rintro e w9 ⟨rfl, hb⟩
      have K9 := Lib.hid hb
      clear hb
      go_wp2_with fail
      go_ret
      exact ⟨rfl, chain K2.out K9.out.out⟩
    all_goals
      clear CA3
      go_wp2_with fail
      go_ret
      exact ⟨rfl, chain K2.out K8.out.out⟩
  | good t u ps =>
    rw [ho] at P R
    obtain ⟨z1, z2, z3, z4⟩ := good_sizes ho
    simp only [MediaOut, RMediaOut, tOf, uOf, psOf, kOf, ErrIs] at P R
    obtain ⟨tx, htx⟩ : ∃ tx, Hid (T (textL t u ps) = tx) := ⟨_, rfl⟩
    have TT := fun ad n c w h hn => text_any t u ad n c ps w h hn (by omega) (by omega) (fun p hp => ⟨by have := (z4 p hp).1; omega, by have := (z4 p hp).2; omega⟩)
    have PB : ∀ w, Calls Tryz.prog 5 #[.string tx] w fun e w' => MediaOut (mediaOf tx) w e w' := fun w => parse_any tx (by rw [← htx.out, T_size]; have := text_bound ho; omega) w
    have BK : Hid (tx.size ≤ 1000 → mediaOf tx = .good t u ps) := fun h => by
      rw [← htx.out] at h ⊢
      exact text_back ho h
    rw [htx.out] at TT
    have hz := Lib.hid z3
    clear hH ho z1 z2 z3 z4 htx
    go_enter Tryz.func3, Tryz.ntmps3
    go_wp2_with fail
    refine S.mono ?_; rintro e w1 ⟨rfl, hb⟩
    have K1 := Lib.hid hb
    clear hb S HL
    go_wp2_with fail
    refine (P _).mono ?_; rintro e w2 ⟨ad, n, c, x, rfl, hI, rfl, hb⟩
    have K2 : Hid (Below w.heap.size w w2) := chain K1.out hb
    have I2 := Lib.hid hI.in
    have hn0 := hI.in.len.1
    have HN := Lib.hid hn0
    have B2 : Hid (Box (w2.alloc (.cells #[.string t, .string u, .slice ad n c] 25)) w2.heap.size t u (.slice ad n c)) := Box.new _ _ _ _ _
    clear hb K1 hI P hn0
    go_wp2_with fail
    refine (R _).mono ?_; rintro e w3 ⟨ad2, n2, c2, rfl, hI, hb⟩
    have K3 : Hid (Keeps w2 w3) := chain (up _ _) hb
    have I3 := Lib.hid hI.in
    obtain rfl : n2 = n := by rw [← hI.in.len.1]; exact HN.out
    have B3 := Lib.hid (B2.out.below hb)
    clear hb hI B2 R
    have K4 : Hid (Keeps w2 (w3.alloc (.cells #[.string t, .string u, .slice ad2 n2 c2] 25))) := chain K3.out (up _ _)
    have B4 := Lib.hid (B3.out.below (up w3 (.cells #[.string t, .string u, .slice ad2 n2 c2] 25)))
    obtain ⟨d0, d1, d2⟩ := B4.out
    have CS := same_is t u ad ad2 n2 c c2 ps _ (I2.out.below K4.out) (I3.out.below (up w3 (.cells #[.string t, .string u, .slice ad2 n2 c2] 25))) (by have := hz.out; have := HN.out; omega)
    clear I3 B3
    go_wp2_with fail
    refine CS.mono ?_; rintro e w4 ⟨rfl, hb⟩
    have K5 : Hid (Keeps w2 w4) := chain K4.out hb
    have B5 := Lib.hid (B4.out.below hb)
    clear hb d0 d1 d2 CS K3 K4 B4
    have CK := kind_nil w4
    go_wp2_with fail
    refine CK.mono ?_; rintro e w5 ⟨rfl, rfl⟩
    go_wp2_with fail
    refine (TA _).mono ?_; rintro e w6 ⟨rfl, hb⟩
    have K7 : Hid (Keeps w2 w6) := chain K5.out hb
    have B7 := Lib.hid (B5.out.below hb)
    clear hb K5 B5 CK
    go_wp2_with fail
    refine (TR _).mono ?_; rintro e w7 ⟨rfl, rfl⟩
    obtain ⟨d0, d1, d2⟩ := B7.out
    have CT := TT ad n2 c _ (I2.out.below K7.out) (by have := hz.out; have := HN.out; omega)
    clear TA TR TT nq
    go_wp2_with fail
    refine CT.mono ?_; rintro e w8 ⟨rfl, hb⟩
    have K8 : Hid (Keeps w2 w8) := chain K7.out hb
    have B8 := Lib.hid (B7.out.below hb)
    clear hb d0 d1 d2 CT K7 B7
    by_cases hbig : 1000 < tx.size
    · have y1 : (1000 : Int) < (tx.size : Int) := by omega
      generalize mediaOf tx = o2 at *
      simp only [MediaOut] at PB
      clear BK
      go_wp2_with fail
      refine (PB _).mono ?_; rintro e w9 ⟨ad9, n9, c9, x9, rfl, -, -, hb⟩
      have K9 : Hid (Keeps w2 w9) := chain K8.out hb
      clear hb PB
      go_wp2_with fail
      go_ret
      exact ⟨rfl, (chain K2.out K9.out).alloc (Nat.le_trans K2.out.size K9.out.out.size) _⟩
    · have y1 : ¬ (1000 : Int) < (tx.size : Int) := by omega
      rw [BK.out (by omega)] at PB
      simp only [MediaOut, tOf, uOf, psOf, ErrIs] at PB
      clear BK hbig
      go_wp2_with fail
      refine (PB _).mono ?_; rintro e w9 ⟨ad9, n9, c9, x9, rfl, hI, rfl, hb⟩
      have K9 : Hid (Keeps w2 w9) := chain K8.out hb
      have K10 : Hid (Keeps w2 (w9.alloc (.cells #[.string t, .string u, .slice ad9 n9 c9] 25))) := chain K9.out (up _ _)
      obtain ⟨d0, d1, d2⟩ := (B8.out.below hb).below (up w9 (.cells #[.string t, .string u, .slice ad9 n9 c9] 25))
      obtain rfl : n9 = n2 := by rw [← hI.in.len.1]; exact HN.out
      have CS := same_is t u ad9 ad n9 c9 c ps _ (hI.in.below (up w9 (.cells #[.string t, .string u, .slice ad9 n9 c9] 25))) (I2.out.below K10.out) (by have := hz.out; have := HN.out; omega)
      clear hb hI PB K8 B8 I2
      go_wp2_with fail
      refine CS.mono ?_; rintro e w10 ⟨rfl, hb⟩
      have K11 : Hid (Keeps w2 w10) := chain K10.out hb
      clear hb
      go_wp2_with fail
      go_ret
      exact ⟨rfl, chain K2.out K11.out⟩

theorem law (s : ByteArray) (w : World) (hs : s.size ≤ maxLen) (hH : Laid w) :
    Calls Tryz.prog 3 #[.string s] w fun e w' => e = .returned (.bool true) ∧ Below w.heap.size w w' := by
  unfold maxLen at hs
  by_cases hbig : 1500 < s.size
  · have S := speaks_any w
    have x1 : (1500 : Int) < (s.size : Int) := by omega
    clear hbig hH
    go_enter Tryz.func3, Tryz.ntmps3
    go_wp2_with fail
    refine S.mono ?_; rintro e w1 ⟨rfl, hb1⟩
    have K1 := Lib.hid hb1
    clear hb1 S
    go_wp2_with fail
    go_ret
    exact ⟨rfl, K1.out⟩
  · exact main s (by omega) w hH
end Go.Proofs.YtnjiogfnjpnjfaaGreatDoor.mediaReads
