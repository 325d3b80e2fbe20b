/- glob.read: the parts of one of Apple's patterns, in memory of its own. -/
import Derived.Test.YtjijdaheabgphaaDoorGpRow
import Derived.Test.YtjijdaheabgphaaDoorChars
import Derived.Deep.Onto
set_option linter.unusedSimpArgs false
set_option linter.unusedVariables false
namespace Go.Proofs.YtjijdaheabgphaaDoor.gparts
open Go.RowKit Go.Proofs.YtjijdaheabgphaaDoor.errs Go.Proofs.YtjijdaheabgphaaDoor.rows Go.Proofs.YtjijdaheabgphaaDoor.utf Go.Proofs.YtjijdaheabgphaaDoor.chars

/-- A character as a part of a pattern of stars and question marks. -/
def apple (c : Int) : Pt := ⟨c, decide (c = 42) || decide (c = 63), decide (c = 42)⟩
def apples (s : ByteArray) : List Pt := (all s).map apple
theorem apple_star : apple 42 = ⟨42, true, true⟩ := by kernel_rfl
theorem apple_ask : apple 63 = ⟨63, true, false⟩ := by kernel_rfl
theorem apple_char {c : Int} (h : c ≠ 42) (h2 : c ≠ 63) : apple c = ⟨c, false, false⟩ := by unfold apple; rw [decide_eq_false h, decide_eq_false h2]; rfl

theorem news_part (w : World) (p : Pt) (b o : Nat) (hb : b = w.heap.size) : ∀ j u, (enc p)[j]? = some u → (w.alloc (.cells #[.int .i32 p.char, .bool p.free, .bool p.many] 51)).cell? ((⟨b, 0, none⟩ : Addr).add j) = some u := by
  subst hb
  intro j u hj
  rw [show (Addr.add ⟨w.heap.size, 0, none⟩ j : Addr) = ⟨w.heap.size, j, none⟩ by unfold Addr.add; split <;> simp_all, World.cell?_alloc_at _ _ _ _ rfl]
  have h3 : j < 3 := (List.getElem?_eq_some_iff.1 hj).1
  rcases (show j = 0 ∨ j = 1 ∨ j = 2 by omega) with rfl | rfl | rfl <;> exact hj

set_option maxHeartbeats 4000000 in
theorem read_any (s : ByteArray) (w : World) (hz : s.size ≤ 1000000) :
    Calls Tryd.prog 28 #[.string s] w fun e w' => ∃ v, e = .returned v ∧ Aside (w'.ownsRow w.heap.size 51 3 v (apples s).length (flat (apples s)) ∧ Below w.heap.size w w') := by
  obtain ⟨n, hn⟩ : ∃ n, Hid (s.size = n) := ⟨_, rfl⟩
  rw [hn.out] at hz
  go_enter Tryd.func28, Tryd.ntmps28
  go_wp2_with fail
  obtain ⟨i0, hi, hz0, hz1, hz2⟩ := info_parts infoPart
  have hit0 : Aside ((w.iter s 0).heap[w.heap.size]? = some (.stringIter s 0)) := World.iter_heap w s 0
  have hbw : Aside (Below w.heap.size w (w.iter s 0)) := (Below.refl _ _).alloc (Nat.le_refl _) _
  have hk0 : Aside (w.heap.size ≤ w.heap.size) := Nat.le_refl _
  generalize w.iter s 0 = w2 at *
  generalize hkk : w.heap.size = k0 at *
  have HKK := Lib.hid hkk
  clear hkk
  go_loopg [3] n (fun g t wr => ∃ (pos : Nat) (acc : List Int) (t0 : Value), t0 = t ∧ pos ≤ n ∧ n ≤ pos + g ∧ acc.length ≤ pos ∧ Aside (acc ++ from_ s g pos = all s ∧ wr.ownsRow (k0 + 1) 51 3 t0 (acc.map apple).length (flat (acc.map apple)) ∧ wr.heap[k0]? = some (.stringIter s pos) ∧ Below k0 w wr))
  case atStart => exact ⟨0, [], _, rfl, by omega, by omega, by simp, by simp [all, hn.out], World.ownsRow_nil w2 _ _ _, hit0.out, hbw.out⟩
  case round =>
    clear hit0 hbw
    obtain ⟨pos, acc, t0, rfl, hp, hg, hal, hA⟩ := hrel
    by_cases hlt : pos < n
    · obtain ⟨g, rfl⟩ : ∃ g, gk = g + 1 := ⟨gk - 1, by omega⟩
      have hps : pos < s.size := by rw [hn.out]; exact hlt
      have hnx := fun ty => Lib.run_next_any_at (P := Tryd.prog) wr k0 s pos ty hA.out.2.2.1 hps
      have hf : Hid (acc ++ ((Utf8.decode s pos).1 : Int) :: from_ s g (pos + (Utf8.decode s pos).2) = all s) := by
        have := hA.out.1
        rwa [from_step s g pos hps] at this
      have hfit := decode_fits s pos hps
      rw [hn.out] at hfit
      obtain ⟨b1, b2, b3⟩ := decode_bounds s pos
      have hk0w : k0 < wr.heap.size := (Array.getElem?_eq_some_iff.1 hA.out.2.2.1).1
      have hown : (wr.iterAt k0 s (pos + (Utf8.decode s pos).2)).ownsRow (k0 + 1) 51 3 t0 (acc.map apple).length (flat (acc.map apple)) := ownsRow_iterAt hA.out.2.1 (by omega) s _
      have hit : (wr.iterAt k0 s (pos + (Utf8.decode s pos).2)).heap[k0]? = some (.stringIter s (pos + (Utf8.decode s pos).2)) := Lib.iterAt_heap wr k0 s pos _ hA.out.2.2.1
      have hbe : Below k0 w (wr.iterAt k0 s (pos + (Utf8.decode s pos).2)) := Lib.below_iterAt hA.out.2.2.2 (Nat.le_refl _) s _
      have hsz : k0 < (wr.iterAt k0 s (pos + (Utf8.decode s pos).2)).heap.size := by rw [Lib.iterAt_size]; exact hk0w
      have Q : Aside ((wr.iterAt k0 s (pos + (Utf8.decode s pos).2)).heap[k0]? = some (.stringIter s (pos + (Utf8.decode s pos).2)) ∧ Below k0 w (wr.iterAt k0 s (pos + (Utf8.decode s pos).2))) := ⟨hit, hbe⟩
      clear hit hbe
      generalize ((Utf8.decode s pos).1 : Int) = c at *
      generalize (Utf8.decode s pos).2 = K at *
      generalize hW : wr.iterAt k0 s (pos + K) = W at *
      have HW := Lib.hid hW
      clear hW
      have HO : Aside (W.ownsRow (k0 + 1) 51 3 t0 (acc.map apple).length (flat (acc.map apple))) := hown
      clear hown hps
      have hml : (acc.map apple).length = acc.length := List.length_map _
      have HML := Lib.hid hml
      clear hml
      have b1 : True := trivial
      obtain ⟨pt, hpt⟩ : ∃ pt, Hid (apple c = pt) := ⟨_, rfl⟩
      have hlen : (acc.map apple).length ≤ 1000000 := by rw [HML.out]; omega
      have AP : ∀ (x : Operand) (rest : List Oper) (ops : Array Oper) (a : Act) (QQ : Exit → Act → World → Prop) (o : Oper) (hgd : o.guard = none) (y : Operand) (ho : o.op = .call { callee := .builtin .append, args := #[y, x], argTypes := #[41, 41] }) (hy : a.eval y = t0) (hx : a.eval x = .slice (some ⟨W.heap.size, 0, none⟩) 1 1)
          (h : ∀ v' w', Aside (w'.ownsRow (k0 + 1) 51 3 v' ((acc ++ [c]).map apple).length (flat ((acc ++ [c]).map apple)) ∧ w'.heap[k0]? = some (.stringIter s (pos + K)) ∧ Below k0 w w') → wpList Tryd.prog ops QQ rest (a.put o.dst v') w'),
          wpList Tryd.prog ops QQ (o :: rest) a (W.alloc (.cells #[.int .i32 pt.char, .bool pt.free, .bool pt.many] 51)) := fun x rest ops a QQ o hgd y ho hy hx h => by
        refine wpList_append_own _ hgd y x 41 ho (k0 + 1) 51 i0 _ 3 8 Tryd.underlying41 hi hz0 hz1 hz2 rfl (by decide) t0 (acc.map apple).length (flat (acc.map apple)) hy (HO.out.alloc _) ⟨W.heap.size, 0, none⟩ 1 1 (enc pt) hx rfl (news_part W pt _ 0 rfl) (fun u hu => flat_cells [pt] u (by rw [flat_one]; exact hu)) (by unfold maxLen; omega) (by omega) (by simp; omega) ?_
        intro v' w3 hown' hgrow _
        refine h v' w3 ?_
        have hl := HO.out.lt
        refine ⟨?_, ?_, ?_⟩
        · rw [List.map_append, List.map_singleton, flat_append, flat_one, hpt.out, List.length_append]
          exact hown'
        · rw [hgrow.block k0 (by simp; omega) (fun e => by have := (hl k0 e.symm).1; omega), Below.heap_alloc _ _ _ hsz]
          exact Q.out.1
        · refine (Q.out.2.alloc (by omega) _).grown hgrow (by simp; omega) (fun q hq => by have := (hl q hq).1; omega)
      clear HO hn HML HW
      by_cases h42 : c = 42
      · subst h42
        have e : pt = ⟨42, true, true⟩ := hpt.out.symm.trans apple_star
        subst e
        clear hpt
        go_wp2_with (at_builtin; refine AP _ _ _ _ _ _ rfl _ rfl rfl rfl ?_; intro v' w3 N)
        go_roundg g
        case measure => omega
        case rel => exact ⟨pos + K, acc ++ [42], v', rfl, by omega, by omega, by simp; omega, by rw [← hf.out]; simp, N.out⟩
      · have e1 : (c == 42) = false := beq_eq_false_iff_ne.2 h42
        by_cases h63 : c = 63
        · subst h63
          have e : pt = ⟨63, true, false⟩ := hpt.out.symm.trans apple_ask
          subst e
          clear hpt h42
          go_wp2_with (at_builtin; refine AP _ _ _ _ _ _ rfl _ rfl rfl rfl ?_; intro v' w3 N)
          go_roundg g
          case measure => omega
          case rel => exact ⟨pos + K, acc ++ [63], v', rfl, by omega, by omega, by simp; omega, by rw [← hf.out]; simp, N.out⟩
        · have e2 : (c == 63) = false := beq_eq_false_iff_ne.2 h63
          have e : pt = ⟨c, false, false⟩ := hpt.out.symm.trans (apple_char h42 h63)
          subst e
          clear hpt h42 h63
          go_wp2_with (at_builtin; refine AP _ _ _ _ _ _ rfl _ rfl rfl rfl ?_; intro v' w3 N)
          go_roundg g
          case measure => omega
          case rel => exact ⟨pos + K, acc ++ [c], v', rfl, by omega, by omega, by simp; omega, by rw [← hf.out]; simp, N.out⟩
    · have hpn : ¬ pos < s.size := by rw [hn.out]; exact hlt
      have hnx := fun ty => Lib.run_next_end_at (P := Tryd.prog) wr k0 s pos ty hA.out.2.2.1 hpn
      have V : Aside (acc = all s) := by
        have := hA.out.1
        rw [from_end s gk pos (by omega)] at this
        exact (List.append_nil acc).symm.trans this
      go_wp2_with fail
      go_ret
      have hk := HKK.out
      refine ⟨t0, rfl, ?_, by rw [hk]; exact hA.out.2.2.2⟩
      unfold apples
      rw [← V.out]
      exact hA.out.2.1.mono (by omega)
end Go.Proofs.YtjijdaheabgphaaDoor.gparts
