/- The document's Text: the bytes of characters, or the place of the first number that is none. -/
import Derived.Test.YtoilalffhmjhdaaGreatDoorRef
import Derived.Test.YtoilalffhmjhdaaGreatDoorText
import Derived.Laws.OwnMore
set_option linter.unusedSimpArgs false
set_option linter.unusedVariables false
namespace Go.Proofs.YtoilalffhmjhdaaGreatDoor.ref
open Go.RowKit Go.Proofs.YtoilalffhmjhdaaGreatDoor.errs Go.Proofs.YtoilalffhmjhdaaGreatDoor.utf Go.Proofs.YtoilalffhmjhdaaGreatDoor.umath Go.Proofs.YtoilalffhmjhdaaGreatDoor.half Go.Proofs.YtoilalffhmjhdaaGreatDoor.text

/-- What the document's Text answers. -/
def RefTextOut (xs : List Int) (o : Option Nat) (w : World) (e : Ending) (w' : World) : Prop :=
  match o with
  | none => ∃ v, e = .returned (.tuple #[v, .int .i64 (-1)]) ∧ Aside (w'.ownsRow w.heap.size 5 1 v (upto xs xs.length).length (cellsOf (upto xs xs.length)) ∧ Below w.heap.size w w')
  | some i => ∃ v, e = .returned (.tuple #[v, .int .i64 i]) ∧ Below w.heap.size w w'

theorem infoByte : (Tryz.prog.info? 5).map (fun i => (i.zero, i.size, i.bytes)) = some (some (.int .u8 0), 1, 1) := by kernel_rfl

theorem put_new (W : World) (x : Int) (j : Nat) (u : Value) (h : (cellsOf (put x))[j]? = some u) : (W.alloc (.cells (cells (put x)) 5)).cell? ((⟨W.heap.size, 0, none⟩ : Addr).add j) = some u := by
  rw [show (Addr.add ⟨W.heap.size, 0, none⟩ j : Addr) = ⟨W.heap.size, j, none⟩ by simp [Addr.add]; exact fun h => h.symm, World.cell?_alloc_at _ _ _ _ rfl]
  simpa [cells, cellsOf] using h

set_option maxHeartbeats 2000000 in
theorem text_ref (xs : List Int) (v : Value) (w : World) (hv : Nums w v xs) (hz : xs.length ≤ 1000000) :
    Calls Tryz.prog 91 #[v] w fun e w' => RefTextOut xs (badAt xs) w e w' := by
  obtain ⟨a, cap, rfl, h1, h2, h3⟩ := hv
  obtain ⟨n, hn⟩ : ∃ n, Hid (xs.length = n) := ⟨_, rfl⟩
  rw [hn.out] at h1 h3 hz ⊢
  obtain ⟨res, hres⟩ : ∃ res, Hid (badAt xs = res) := ⟨_, rfl⟩
  rw [hres.out]
  go_enter Tryz.func91, Tryz.ntmps91
  go_wp2_with fail
  go_loopg [4, 5] n (fun g t s wr => ∃ (k : Nat) (t0 : Value), s = .int .i64 k ∧ t0 = t ∧ g + k = n ∧ Aside ((∀ j, j < k → right (xs.getD j 0) = true) ∧ wr.ownsRow w.heap.size 5 1 t (upto xs k).length (cellsOf (upto xs k)) ∧ Below w.heap.size w wr))
  case atStart => exact ⟨0, _, rfl, rfl, rfl, fun j hj => by omega, World.ownsRow_lit w #[] 0 (Nat.le_refl _) (by unfold maxLen; omega) rfl, Below.refl _ _ |>.alloc (Nat.le_refl _) _⟩
  case round =>
    obtain ⟨k, t0, rfl, rfl, hg, hA⟩ := hrel
    by_cases hlt : k < n
    · obtain ⟨b, off, rfl, hc⟩ := h3 (by omega)
      have y0 : (0 : Int) ≤ (k : Int) := by omega
      have y1 : (k : Int) < (n : Int) := by omega
      have c0 : wr.cell? ⟨b, off + k, none⟩ = some (.int .i64 (xs.getD k 0)) := by
        rw [hA.out.2.2.cell (lt_of_cell (hc k hlt))]; exact hc k hlt
      obtain ⟨x, hx⟩ : ∃ x, Hid (xs.getD k 0 = x) := ⟨_, rfl⟩
      rw [hx.out] at c0
      have HC : Aside (∀ j, j < n → w.cell? ⟨b, off + j, none⟩ = some (.int .i64 (xs.getD j 0))) := hc
      clear hc h3
      cases hr : right x with
      | false =>
        have I : ∀ wr, Calls Tryz.prog 78 #[.int .i64 x] wr fun e w' => e = .returned (.bool false) ∧ wr = w' := fun wr => right_no x wr hr
        have V : Aside (res = some k) := hres.out.symm.trans (badAt_some (by rw [hn.out]; exact hlt) (by rw [hx.out]; exact hr) hA.out.1)
        clear hr
        go_wp2_with fail
        refine (I _).mono ?_; rintro e w' ⟨rfl, rfl⟩
        go_wp2_with fail
        go_ret2
        rw [V.out]
        exact ⟨_, rfl, hA.out.2.2.alloc hA.out.2.2.size _⟩
      | true =>
        have I : ∀ wr, Calls Tryz.prog 78 #[.int .i64 x] wr fun e w' => e = .returned (.bool true) ∧ wr = w' := fun wr => right_yes x wr hr
        have hl := upto_length xs k
        have PA : ∀ wr, Calls Tryz.prog 79 #[.int .i64 x] wr fun e w' => e = .returned (.slice (some ⟨wr.heap.size, 0, none⟩) (put x).length (put x).length) ∧ wr.alloc (.cells (cells (put x)) 5) = w' := fun wr => put_any x wr hr
        have Q : Aside (right x = true) := hr
        obtain ⟨l1, l2⟩ := put_length x
        obtain ⟨i0, hi, hz0, hz1, hz2⟩ := info_parts infoByte
        clear hr
        go_wp2_with fail
        refine (I _).mono ?_; rintro e w' ⟨rfl, rfl⟩
        go_wp2_with fail
        refine (PA _).mono ?_; rintro e w2 ⟨rfl, rfl⟩
        go_wp2_with (at_builtin; refine wpList_append_own _ rfl _ _ 74 rfl w.heap.size 5 i0 (.int .u8 0) 1 1 Tryz.underlying74 hi hz0 hz1 hz2 rfl (by decide) t0 (upto xs k).length (cellsOf (upto xs k)) rfl (hA.out.2.1.alloc _) ⟨wr.heap.size, 0, none⟩ (put x).length (put x).length (cellsOf (put x)) rfl ?c1 ?c2 ?c3 ?c4 ?c5 ?c6 ?_)
        case c1 => rw [cellsOf_length]; omega
        case c2 => exact put_new wr x
        case c3 => intro u hu; obtain ⟨y, -, rfl⟩ := List.mem_map.1 hu; rfl
        case c4 => unfold maxLen; omega
        case c5 => omega
        case c6 => have := hA.out.2.2.size; simp; omega
        intro v' w3 hown' hgrow _
        have N : Aside (w3.ownsRow w.heap.size 5 1 v' ((upto xs k).length + (put x).length) (cellsOf (upto xs k) ++ cellsOf (put x)) ∧ Below w.heap.size w w3) :=
          ⟨hown', (hA.out.2.2.alloc hA.out.2.2.size _).grown hgrow (by have := hA.out.2.2.size; simp; omega) (fun q hq => (hA.out.2.1.lt q hq).1)⟩
        clear hown' hgrow
        go_wp2_with fail
        go_roundg (gk - 1)
        case measure => omega
        case rel =>
          refine ⟨k + 1, v', by go_num, rfl, by omega, fun j hj => ?_, ?_, N.out.2⟩
          · rcases (show j < k ∨ j = k by omega) with h | rfl
            · exact hA.out.1 j h
            · rw [hx.out]; exact Q.out
          · have hk : k < xs.length := by rw [hn.out]; exact hlt
            have e1 : upto xs (k + 1) = upto xs k ++ put x := by rw [upto_succ xs k hk, hx.out]
            refine owns_cast N.out.1 ?_ ?_
            · rw [e1, List.length_append]
            · rw [e1, cellsOf_append]
    · have hk : k = n := by omega
      subst hk
      have V : Aside (res = none) := hres.out.symm.trans (badAt_none (by rw [hn.out]; exact hA.out.1))
      have y1 : ¬ (k : Int) < (k : Int) := by omega
      clear h3
      go_wp2_with fail
      go_ret2
      rw [V.out]
      exact ⟨t0, rfl, by rw [hn.out]; exact hA.out.2.1, hA.out.2.2⟩
end Go.Proofs.YtoilalffhmjhdaaGreatDoor.ref
