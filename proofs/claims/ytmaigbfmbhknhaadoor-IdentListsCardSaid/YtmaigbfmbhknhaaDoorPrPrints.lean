/- ident.Prints: the fingerprints in order, each once, in memory of its own. -/
import Derived.Test.YtmaigbfmbhknhaaDoorPrCompact
import Derived.Test.YtmaigbfmbhknhaaDoorPrSortMath
import Derived.Test.YtmaigbfmbhknhaaDoorPrCmp
import Derived.Test.YtmaigbfmbhknhaaDoorShelfS
import Derived.Shelf.SlSortCmp.WholeK
import Derived.Lib.OwnBridge
import Derived.Lib.SliceRun
set_option linter.unusedSimpArgs false
set_option linter.unusedVariables false
namespace Go.Proofs.YtmaigbfmbhknhaaDoor.prints
open Go.RowKit Go.Proofs.YtmaigbfmbhknhaaDoor.errs Go.Lib Go.Sort

/-- What slices.Clone hands back. -/
def Cloned (zs : List Pr) (w : World) (e : Ending) (w' : World) : Prop :=
  ∃ a c, e = .returned (.slice a zs.length c) ∧ zs.length ≤ c ∧ c ≤ 9223372036854775807 ∧ (a = none → c = 0) ∧ Keeps w w' ∧ (0 < zs.length → ∃ g, a = some ⟨g, 0, none⟩ ∧ w.heap.size ≤ g ∧ Hold w' g zs.toArray)

theorem own_hold {w : World} {B g n c : Nat} {zs : List Pr} (h : w.ownsRow B 24 32 (.slice (some ⟨g, 0, none⟩) n c) n (flat zs)) (hn : zs.length = n) : Hold w g zs.toArray := by
  intro j hj
  have hj : j < zs.length := by simpa using hj
  refine ⟨fun i v hi => ?_, fun i hi => h.frozenAt _⟩
  have hi32 : i < 32 := by
    rcases Nat.lt_or_ge i 32 with h | h
    · exact h
    · rw [List.getElem?_eq_none (by rw [enc_length]; exact h)] at hi; cases hi
  have e : zs.toArray[j]! = zs[j]! := by rw [getElem!_pos zs.toArray j (by simpa using hj), getElem!_pos zs j hj]; simp
  rw [e] at hi
  rw [h.cellAt (j * 32 + i) (by omega), flat_at zs j i hj hi32]
  exact hi

set_option maxRecDepth 100000 in
theorem clone_any (zs : List Pr) (v : Value) (w : World) (h : Row w v zs) (hz : zs.length ≤ 1000) :
    Calls Tryd.prog 15 #[v] w (Cloned zs w) := by
  have H : Aside (Row w v zs) := h
  have q22 : ∀ (w : World) (a : Option Addr) (n c n' c' : Nat), (binOp .eql 22 (.slice a n c) (.slice none n' c')).run Tryd.prog w = .ok (.bool a.isNone) w := fun w a n c n' c' => Lib.run_eql_slice_nil w _ _ a n c n' c' Tryd.underlying22
  obtain ⟨a, cap, rfl, h1, h2, h3, h4⟩ := h
  cases a with
  | none =>
    obtain rfl : cap = 0 := h3 rfl
    have hz0 : zs = [] := List.length_eq_zero_iff.1 (by omega)
    clear h3 h4
    go_enter Tryd.func15, Tryd.ntmps15
    go_wp2_with fail
    go_ret
    subst hz0
    exact ⟨none, 0, rfl, Nat.le_refl _, by omega, fun _ => rfl, Keeps.refl _, fun h => absurd h (by decide)⟩
  | some ad =>
    clear h3 h4
    go_enter Tryd.func15, Tryd.ntmps15
    go_wp2_with (at_builtin; refine append_any rfl _ _ rfl w.heap.size (.slice (some ⟨w.heap.size, 0, none⟩) 0 0) [] rfl (World.ownsRow_lit w #[] 0 (Nat.le_refl _) (by unfold maxLen; omega) rfl) (some ad) zs.length cap zs rfl (H.out.below (keeps_new w (.cells #[] 24))).source ?ca ?cb ?_)
    case ca => simp; omega
    case cb => simp
    intro v4 w4 own4 grow4
    have k4 : Keeps w w4 := ((Below.refl w.heap.size w).alloc (Nat.le_refl _) _).grown grow4 (by simp) (fun q hq => by simp [Value.ownBlock] at hq; omega)
    have own5 : w4.ownsRow w.heap.size 24 32 v4 zs.length (flat zs) := own_cast own4 (by simp) (by simp)
    clear own4 grow4
    have R : ∃ a c, v4 = .slice a zs.length c ∧ zs.length ≤ c ∧ c ≤ 9223372036854775807 ∧ (a = none → c = 0) ∧ (0 < zs.length → ∃ g, a = some ⟨g, 0, none⟩ ∧ w.heap.size ≤ g ∧ Hold w4 g zs.toArray) := by
      obtain ⟨a, c, rfl, q1, q2, q3, -⟩ := own_row own5
      refine ⟨a, c, rfl, q1, q2, q3, fun h0 => ?_⟩
      obtain ⟨g, c', e, -, -, hg⟩ := own_some own5 h0
      simp only [Value.slice.injEq] at e
      obtain ⟨rfl, -, rfl⟩ := e
      exact ⟨g, rfl, hg, own_hold own5 rfl⟩
    have RA : Aside (∃ a c, v4 = .slice a zs.length c ∧ zs.length ≤ c ∧ c ≤ 9223372036854775807 ∧ (a = none → c = 0) ∧ (0 < zs.length → ∃ g, a = some ⟨g, 0, none⟩ ∧ w.heap.size ≤ g ∧ Hold w4 g zs.toArray)) := R
    have KA : Aside (Keeps w w4) := k4
    clear R own5 k4
    go_wp2_with fail
    go_ret
    obtain ⟨a, c, e, q1, q2, q3, q4⟩ := RA.out
    exact ⟨a, c, by rw [← e]; rfl, q1, q2, q3, KA.out, q4⟩

theorem holds_of {w : World} {g : Nat} {d : Array Pr} (h : Hold w g d) : HoldsK enc 32 w g 0 d := by
  intro t ht
  have ht : t < d.size * 32 := by simpa using ht
  have hj : t / 32 < d.size := by omega
  have e : t = t / 32 * 32 + t % 32 := by omega
  have hl : t % 32 < (enc d[t / 32]!).length := by rw [enc_length]; omega
  refine ⟨?_, ?_⟩
  · rw [get_flatK enc 32 d t ht, Nat.zero_add]
    have := (h (t / 32) hj).1 (t % 32) _ (List.getElem?_eq_getElem hl)
    rw [← e] at this
    rw [getElem!_pos (enc d[t / 32]!) (t % 32) hl]
    exact this
  · have := (h (t / 32) hj).2 (t % 32) (by omega)
    rw [← e] at this
    rw [Nat.zero_add]
    exact this
theorem hold_of {w : World} {g : Nat} {d : Array Pr} (h : HoldsK enc 32 w g 0 d) : Hold w g d := by
  intro j hj
  have ht : ∀ i, i < 32 → j * 32 + i < d.size * 32 := fun i hi => by omega
  refine ⟨fun i v hi => ?_, fun i hi => ?_⟩
  · have hi32 : i < 32 := by
      rcases Nat.lt_or_ge i 32 with h | h
      · exact h
      · rw [List.getElem?_eq_none (by rw [enc_length]; exact h)] at hi; cases hi
    have := (h (j * 32 + i) (by simpa using ht i hi32)).1
    rw [get_flatK enc 32 d _ (ht i hi32), Nat.zero_add, show (j * 32 + i) / 32 = j by omega, show (j * 32 + i) % 32 = i by omega] at this
    have hl : i < (enc d[j]!).length := by rw [enc_length]; exact hi32
    rw [getElem!_pos (enc d[j]!) i hl] at this
    rw [List.getElem?_eq_getElem hl] at hi
    rw [← Option.some.inj hi]
    exact this
  · have := (h (j * 32 + i) (by simpa using ht i hi)).2
    rwa [Nat.zero_add] at this
theorem below_grow {B : Nat} {a w : World} (h : Below B a w) (hB : B ≤ w.heap.size) (os : Array Obj) : Below B a (grow w os) :=
  ⟨h.os, h.tape, h.output, by have := h.size; simp [grow]; omega, fun k hk => by
    rw [← h.block k hk]
    simp only [grow]
    rw [Array.getElem?_append_left (by omega)]⟩

/-- The row is put in order where it stands. -/
theorem sort_any (zs : List Pr) (g c : Nat) (w : World) (hH : Hold w g zs.toArray) (h0 : 0 < zs.length) (hz : zs.length ≤ 1000) :
    Calls Tryd.prog 16 #[.slice (some ⟨g, 0, none⟩) zs.length c, .func (.func 17) #[] #[]] w fun e w' => e = .returned (.tuple #[]) ∧ ∃ d : Array Pr, d.size = zs.length ∧ compactUpTo d d.size = wanted zs ∧ Hold w' g d ∧ Below g w w' := by
  have hsz : zs.toArray.size = zs.length := by simp
  have hlt : g < w.heap.size := hold_lt hH (by simpa using h0)
  have hO : SWO (ltOf cf) := by
    have e : ltOf cf = lt := by funext x y; exact ltOf_cf x y
    rw [e]; exact swo_lt
  have C := AnyQ.slices_SortFunc Tryd.sortP 32 Tryd.isAgg24 Tryd.sizeOf24 enc enc_length enc_one cf hO 17 #[] g 0 c zs.toArray w (enters_of Tryd.func17 (by kernel_rfl) rfl) (fun _ _ _ _ x y => closure_any x y _) (holds_of hH) hlt (by rw [hsz]; omega)
  rw [hsz] at C
  refine C.mono ?_
  rintro e w' ⟨he, d, n, os, hp, hs, rfl⟩
  have e : ltOf cf = lt := by funext x y; exact ltOf_cf x y
  rw [e] at hs
  have hd : d.size = zs.length := by have := hp.1; simpa using this
  refine ⟨he, d, hd, sorted_wanted hp hs, ?_, ?_⟩
  · refine hold_of (holdsK_grow enc 32 _ os g 0 d (by rw [size_putRowK]; exact hlt) ?_)
    exact holdsK_putRowK enc 32 _ g 0 zs.toArray d (holdsK_ahead enc 32 w n g 0 _ (holds_of hH)) (by rw [hd, hsz])
  · exact below_grow (below_putRow (Below.refl g w) (Nat.le_refl _)) (by have e := size_putRowK enc 32 (Sort.ahead w n) g 0 d; unfold putRowK at e; rw [e]; exact Nat.le_of_lt hlt) os
end Go.Proofs.YtmaigbfmbhknhaaDoor.prints
