/- The document's own answer of whether a text is in a pattern's language. -/
import Derived.Test.YtoilalffhmjhdaaGreatDoorGlCheck
import Derived.Test.YtoilalffhmjhdaaGreatDoorGlRow
import Derived.Deep.RegionHeld3
import Derived.StillTailTactics
set_option linter.unusedSimpArgs false
set_option linter.unusedVariables false
namespace Go.Proofs.YtoilalffhmjhdaaGreatDoor.glref
open Go.RowKit Go.Proofs.YtoilalffhmjhdaaGreatDoor.errs Go.Proofs.YtoilalffhmjhdaaGreatDoor.utf Go.Proofs.YtoilalffhmjhdaaGreatDoor.umath Go.Proofs.YtoilalffhmjhdaaGreatDoor.text Go.Proofs.YtoilalffhmjhdaaGreatDoor.chars Go.Proofs.YtoilalffhmjhdaaGreatDoor.ref Go.Proofs.YtoilalffhmjhdaaGreatDoor.gmath Go.Proofs.YtoilalffhmjhdaaGreatDoor.rows

theorem from_ge (s : ByteArray) : ∀ (g i : Nat), ∀ c ∈ from_ s g i, (0 : Int) ≤ c
  | 0, i, c, hc => by simp [from_] at hc
  | g + 1, i, c, hc => by
    by_cases h : i < s.size
    · rw [from_step s g i h] at hc
      rcases List.mem_cons.1 hc with rfl | hc
      · exact Int.natCast_nonneg _
      · exact from_ge s g _ c hc
    · rw [from_end s (g + 1) i (by omega)] at hc; cases hc
theorem all_ge (s : ByteArray) (i : Nat) : (0 : Int) ≤ (all s).getD i 0 := by
  rw [List.getD_eq_getElem?_getD]
  by_cases h : i < (all s).length
  · rw [List.getElem?_eq_getElem h]; exact from_ge s _ _ _ (List.getElem_mem h)
  · rw [List.getElem?_eq_none (by omega)]; exact Int.le_refl _
theorem from_le (s : ByteArray) : ∀ (g i : Nat), (from_ s g i).length ≤ g
  | 0, i => by simp [from_]
  | g + 1, i => by
    by_cases h : i < s.size
    · rw [from_step s g i h, List.length_cons]
      have := from_le s g (i + (Utf8.decode s i).2)
      omega
    · rw [from_end s (g + 1) i (by omega)]; exact Nat.zero_le _
theorem all_le (s : ByteArray) : (all s).length ≤ s.size := from_le s _ _

/-- An operation that isn't wanted is passed over. -/
theorem still_skip {P : Program} {ops : Array Oper} {w : World} {Q : Act → Prop} {o : Oper} {rest : List Oper} {a : Act} (hg : Region.wanted o (yielded ops a.tmps) = false) (h : wpStill P ops w Q rest (a.put o.dst undef)) : wpStill P ops w Q (o :: rest) a := by
  unfold wpStill
  rw [if_neg (by rw [hg]; decide)]
  exact h

/-- Chars, whatever it answers. -/
theorem chars_some (s : ByteArray) (v : Value) (w : World) (hv : Sl w v s) (hz : s.size ≤ 1000000) :
    Calls Tryz.prog 35 #[v] w fun e w' => ∃ v' k, e = .returned (.tuple #[v', .int .i64 k]) ∧ Below w.heap.size w w' := by
  refine (chars_ref s v w hv hz).mono ?_
  intro e w' h
  cases hf : firstBad s with
  | none => rw [hf] at h; obtain ⟨v', h1, h2⟩ := h; exact ⟨v', _, h1, h2.out.2⟩
  | some i => rw [hf] at h; obtain ⟨v', h1, h2⟩ := h; exact ⟨v', _, h1, h2⟩
theorem chars_wrong {s : ByteArray} {i : Nat} (hf : firstBad s = some i) (v : Value) (w : World) (hv : Sl w v s) (hz : s.size ≤ 1000000) :
    Calls Tryz.prog 35 #[v] w fun e w' => ∃ v', e = .returned (.tuple #[v', .int .i64 i]) ∧ Below w.heap.size w w' := by
  have := chars_ref s v w hv hz
  rw [hf] at this
  exact this
theorem chars_right {s : ByteArray} (hf : firstBad s = none) (v : Value) (w : World) (hv : Sl w v s) (hz : s.size ≤ 1000000) :
    Calls Tryz.prog 35 #[v] w fun e w' => ∃ v', e = .returned (.tuple #[v', .int .i64 (-1)]) ∧ Aside (Nums w' v' (all s) ∧ Below w.heap.size w w') := by
  have := chars_ref s v w hv hz
  rw [hf] at this
  refine this.mono ?_
  rintro e w' ⟨v', h1, h2⟩
  exact ⟨v', h1, nums_of_own h2.out.1, h2.out.2⟩

theorem nums_at {w : World} {b o len cap : Nat} {xs : List Int} (h : Nums w (.slice (some ⟨b, o, none⟩) len cap) xs) (j : Nat) (hj : j < xs.length) : w.cell? ⟨b, o + j, none⟩ = some (.int .i64 (xs.getD j 0)) := by
  obtain ⟨a, c, e, -, -, q⟩ := h
  obtain ⟨b', o', e', hq⟩ := q (by omega)
  subst e'
  obtain ⟨⟨rfl, rfl⟩, -, -⟩ : (b = b' ∧ o = o') ∧ len = xs.length ∧ cap = c := by simpa using e
  exact hq j hj

def matchOf (fold : Bool) (p s : ByteArray) : Bool := decide ((checkOf p).1 = 0) && (firstBad s).isNone && lang fold (all p) (all s)

set_option maxRecDepth 100000 in
set_option maxHeartbeats 4000000 in
theorem rmatch_wrong (fold : Bool) (p s : ByteArray) (hp : p.size ≤ 1000000) (hs : s.size ≤ 1000000) (hc : ¬ (checkOf p).1 = 0) (w : World) :
    Calls Tryz.prog 80 #[.string p, .string s, .bool fold] w fun e w' => e = .returned (.bool false) ∧ Below w.heap.size w w' := by
  have CK := rcheck_any p hp w
  obtain ⟨k, hk⟩ : ∃ k, (checkOf p).1 = k := ⟨_, rfl⟩
  rw [hk] at CK hc
  have hk0 : (k == 0) = false := beq_eq_false_iff_ne.2 hc
  generalize (checkOf p).2 = a at CK
  have hk1 : ¬ k = 0 := hc
  clear hk hc
  go_enter Tryz.func80, Tryz.ntmps80
  go_wp2_with fail
  refine CK.mono ?_; rintro e w1 ⟨rfl, hb1⟩
  obtain ⟨v1, W1, hv1, hs1⟩ := bytes_new p hp w1
  have C1 := chars_some p v1 W1 hs1.out.1 hp
  have hv1 := hv1.out
  have K1 : Aside (Keeps w W1) := Keeps.step hb1 hs1.out.2
  clear hs1 hb1 CK
  go_wp2_with fail
  refine C1.mono ?_; rintro e w2 ⟨x2, k2, rfl, hb2⟩
  obtain ⟨v3, W3, hv3, hs3⟩ := bytes_new s hs w2
  have C3 := chars_some s v3 W3 hs3.out.1 hs
  have hv3 := hv3.out
  have K3 : Aside (Keeps w W3) := (K1.out.step hb2).step hs3.out.2
  clear hs3 hb2 K1 C1 hv1
  go_wp2_with fail
  refine C3.mono ?_; rintro e w4 ⟨x4, k4, rfl, hb4⟩
  have K4 : Aside (Keeps w w4) := K3.out.step hb4
  clear hb4 K3 C3 hv3
  go_wp2_with fail
  go_ret
  exact ⟨rfl, K4.out⟩

set_option maxRecDepth 100000 in
set_option maxHeartbeats 8000000 in
theorem rmatch_text (fold : Bool) (p s : ByteArray) (hp : p.size ≤ 1000000) (hs : s.size ≤ 1000000) (hc : checkOf p = (0, 0)) {i : Nat} (hf : firstBad s = some i) (w : World) :
    Calls Tryz.prog 80 #[.string p, .string s, .bool fold] w fun e w' => e = .returned (.bool false) ∧ Below w.heap.size w w' := by
  have CK := rcheck_any p hp w
  rw [hc] at CK
  have CK : Calls Tryz.prog 21 #[.string p] w fun e w' => e = .returned (.tuple #[.int .i64 0, .int .i64 0]) ∧ Below w.heap.size w w' := CK
  clear hc
  go_enter Tryz.func80, Tryz.ntmps80
  go_wp2_with fail
  refine CK.mono ?_; rintro e w1 ⟨rfl, hb1⟩
  obtain ⟨v1, W1, hv1, hs1⟩ := bytes_new p hp w1
  have C1 := chars_some p v1 W1 hs1.out.1 hp
  have hv1 := hv1.out
  have K1 : Aside (Keeps w W1) := Keeps.step hb1 hs1.out.2
  clear hs1 hb1 CK
  go_wp2_with fail
  refine C1.mono ?_; rintro e w2 ⟨x2, k2, rfl, hb2⟩
  obtain ⟨v3, W3, hv3, hs3⟩ := bytes_new s hs w2
  have C3 := chars_wrong hf v3 W3 hs3.out.1 hs
  have hv3 := hv3.out
  have K3 : Aside (Keeps w W3) := (K1.out.step hb2).step hs3.out.2
  clear hs3 hb2 K1 C1 hv1 hf
  go_wp2_with fail
  refine C3.mono ?_; rintro e w4 ⟨x4, rfl, hb4⟩
  have K4 : Aside (Keeps w w4) := K3.out.step hb4
  have y0 : (0 : Int) ≤ (i : Int) := by omega
  clear hb4 K3 C3 hv3
  go_wp2_with fail
  go_ret
  exact ⟨rfl, K4.out⟩
end Go.Proofs.YtoilalffhmjhdaaGreatDoor.glref
