/- The document's Has, and its Ahead. -/
import Derived.Test.YtmaigbfmbhknhaaDoorPrHas
import Derived.WalkSmall
import Derived.Laws.IdiomStrings
namespace Go.Proofs.YtmaigbfmbhknhaaDoor.prints
open Go.RowKit Go.Proofs.YtmaigbfmbhknhaaDoor.errs

theorem among_hit {zs : List Pr} {x : Pr} {k : Nat} (h : k < zs.length) (e : zs[k]! = x) : among zs x = true := by
  unfold among
  rw [List.any_eq_true]
  refine ⟨x, ?_, by simp⟩
  rw [← e, getElem!_pos zs k h]
  exact List.getElem_mem h
theorem among_miss {zs : List Pr} {x : Pr} (h : ∀ j, j < zs.length → zs[j]! ≠ x) : among zs x = false := by
  unfold among
  rw [List.any_eq_false]
  intro y hy
  obtain ⟨j, hj, rfl⟩ := List.getElem_of_mem hy
  have := h j hj
  rw [getElem!_pos zs j hj] at this
  simpa using fun e => this e.symm

/-- A load of a fingerprint inside a region that only reads. -/
theorem quiet_load24 {ops : Array Oper} {w : World} {Q : Act → Prop} {a : Act} {o : Oper} {rest : List Oper} (hw : Region.wanted o (yielded ops a.tmps) = true) (x : Operand) (ho : o.op = .load 24 x)
    (b off : Nat) (hx : a.eval x = .pointer (some ⟨b, off, none⟩)) (p : Pr) (hc : At32 w b off p) (h : wpQuiet Tryd.prog ops (fun w' => ∃ n, w' = w.drewN n) Q rest (a.put o.dst (.agg (enc p).toArray))) :
    wpQuiet Tryd.prog ops (fun w' => ∃ n, w' = w.drewN n) Q (o :: rest) a := by
  unfold wpQuiet
  rw [if_pos hw]
  refine ⟨_, fun w1 hw1 => ?_, h⟩
  obtain ⟨n, rfl⟩ := hw1
  have hc' : (w.drewN n).rangeAt b off (enc p) := fun i v hi => by rw [World.cell?_drewN]; exact hc i v hi
  unfold Oper.quietAt execOp
  simp only [ho, hx, Instr.loadAt, Instr.sureAddr, Sem.run_bind, Sem.run_pure, Result.andThen_ok, run_loadVar_mid (w.drewN n) b off 24 (enc p) _ hc' Tryd.underlying24 rfl (size_enc p)]
  exact ⟨rfl, rfl⟩

set_option maxHeartbeats 2000000 in
set_option maxRecDepth 100000 in
theorem refhas_any (zs : List Pr) (v : Value) (x : Pr) (w : World) (h : Row w v zs) :
    Calls Tryd.prog 9 #[v, .agg (enc x).toArray] w fun e w' => e = .returned (.bool (among zs x)) ∧ Keeps w w' := by
  have H : Aside (Row (w.alloc (.cells (enc x).toArray 24)) v zs ∧ At32 (w.alloc (.cells (enc x).toArray 24)) w.heap.size 0 x ∧ Keeps w (w.alloc (.cells (enc x).toArray 24))) := ⟨h.below (keeps_new w _), at32_new w x 24, keeps_new w _⟩
  obtain ⟨a, cap, rfl, h1, h2, h3, h4⟩ := h
  clear h3 h4
  obtain ⟨n, hn⟩ : ∃ n, Hid (zs.length = n) := ⟨_, rfl⟩
  rw [hn.out] at h1 H ⊢
  obtain ⟨r, hr⟩ : ∃ r, Hid (among zs x = r) := ⟨_, rfl⟩
  rw [hr.out]
  have e24 := eql24
  have g24 := guard24
  have hu := Tryd.underlying24
  have hi := size_enc x
  go_enter Tryd.func9, Tryd.ntmps9
  go_wp2_with fail
  generalize w.alloc (.cells (enc x).toArray 24) = W at H ⊢
  go_loopg [5] n (fun g t wr => ∃ k : Nat, t = .int .i64 k ∧ g + k = n ∧ Aside (Keeps W wr ∧ ∀ j, j < k → zs[j]! ≠ x))
  case atStart => exact ⟨0, rfl, rfl, Keeps.refl _, fun j hj => absurd hj (Nat.not_lt_zero _)⟩
  case round =>
    obtain ⟨k, rfl, hg, hA⟩ := hrel
    by_cases hlt : k < n
    · obtain ⟨a', cap', ev, -, -, -, h4⟩ := H.out.1
      simp only [Value.slice.injEq] at ev
      obtain ⟨rfl, -, -⟩ := ev
      obtain ⟨b, off, rfl, hB⟩ := h4 (by rw [hn.out]; omega)
      have hB := hB k (by rw [hn.out]; exact hlt)
      have c1 : wr.rangeAt b (off + k * 32) (enc zs[k]!) := hB.below hA.out.1 (Nat.le_refl _)
      have c2 : wr.rangeAt w.heap.size 0 (enc x) := H.out.2.1.below hA.out.1 (Nat.le_refl _)
      have y0 : (0 : Int) ≤ (k : Int) := by omega
      have y1 : (k : Int) < (n : Int) := by omega
      obtain ⟨y, hy⟩ : ∃ y, Hid (zs[k]! = y) := ⟨_, rfl⟩
      rw [hy.out] at c1
      have hi2 := size_enc y
      clear hB h4
      cases hd : decide (y = x) with
      | true =>
        have D : Aside (y = x) := (of_decide_eq_true hd : y = x)
        go_wp2_with fail
        refine wp_region_quiet_lit (by kernel_rfl) (by kernel_rfl) ?_
        repeat (first
          | (refine quiet_load24 rfl _ rfl _ _ rfl _ (by first | exact c1 | exact c2) ?_; simp only [Act.put, List.setIfInBounds_toArray, List.set_cons_zero, List.set_cons_succ])
          | go_big_quiet_step (fail))
        refine wpQuiet_nil ?_
        intro _ hw'
        obtain ⟨nq, hw''⟩ := hw'
        subst hw''
        go_wp2_with fail
        go_ret
        refine ⟨?_, ?_⟩
        · rw [← hr.out, among_hit (by rw [hn.out]; exact hlt) (hy.out.trans D.out)]; rfl
        · exact Keeps.step H.out.2.2 (below_drewN hA.out.1 nq)
      | false =>
        have D : Aside (y ≠ x) := (of_decide_eq_false hd : ¬ y = x)
        go_wp2_with fail
        refine wp_region_quiet_lit (by kernel_rfl) (by kernel_rfl) ?_
        repeat (first
          | (refine quiet_load24 rfl _ rfl _ _ rfl _ (by first | exact c1 | exact c2) ?_; simp only [Act.put, List.setIfInBounds_toArray, List.set_cons_zero, List.set_cons_succ])
          | go_big_quiet_step (fail))
        refine wpQuiet_nil ?_
        intro _ hw'
        obtain ⟨nq, hw''⟩ := hw'
        subst hw''
        go_wp2_with fail
        go_roundg (gk - 1)
        case measure => omega
        case rel =>
          refine ⟨k + 1, by go_num, by omega, below_drewN hA.out.1 nq, fun j hj => ?_⟩
          rcases (show j < k ∨ j = k by omega) with h | rfl
          · exact hA.out.2 j h
          · rw [hy.out]; exact D.out
    · have hk : k = n := by omega
      subst hk
      have y1 : ¬ (k : Int) < (k : Int) := by omega
      go_wp2_with fail
      go_ret
      refine ⟨?_, H.out.2.2.step hA.out.1⟩
      rw [← hr.out, among_miss (by rw [hn.out]; exact hA.out.2)]; rfl

/-- A fingerprint's bytes as a text. -/
def text (p : Pr) : ByteArray := ⟨p.1.toArray⟩
theorem text_list (p : Pr) : (text p).toList = p.1 := by rw [ByteArray.toList_eq]; rfl
theorem conv_text {w : World} {b off : Nat} {p : Pr} (h : At32 w b off p) (n : Nat) : (convert 42 9 (.slice (some ⟨b, off, none⟩) 32 32)).run Tryd.prog (w.drewN n) = .ok (.string (text p)) (w.drewN n) := by
  have := run_convert_bytes_back (P := Tryd.prog) (w.drewN n) 42 9 5 ⟨b, off, none⟩ 32 p.1 Tryd.underlying42 Tryd.underlying5 Tryd.underlying9 (fun j hj => by
    have hp := p.2
    rw [show (Addr.add ⟨b, off, none⟩ j : Addr) = ⟨b, off + j, none⟩ by simp [Addr.add], World.cell?_drewN, h.cell (i := j) (by omega), List.getD_eq_getElem?_getD, List.getElem?_eq_getElem hj]
    rfl)
  rw [p.2] at this
  exact this
theorem ahead_any (p q : Pr) (w : World) :
    Calls Tryd.prog 20 #[.agg (enc p).toArray, .agg (enc q).toArray] w fun e w' => e = .returned (.bool (lt p q)) ∧ Keeps w w' := by
  have h1 : At32 ((w.alloc (.cells (enc p).toArray 24)).alloc (.cells (enc q).toArray 24)) w.heap.size 0 p := (at32_new w p _).below (keeps_new _ _) (Nat.le_refl _)
  have h2 : At32 ((w.alloc (.cells (enc p).toArray 24)).alloc (.cells (enc q).toArray 24)) (w.heap.size + 1) 0 q := by
    have h := at32_new (w.alloc (.cells (enc p).toArray 24)) q 24
    have e : (w.alloc (.cells (enc p).toArray 24)).heap.size = w.heap.size + 1 := by simp
    rwa [e] at h
  have k1 : Keeps w ((w.alloc (.cells (enc p).toArray 24)).alloc (.cells (enc q).toArray 24)) := (keeps_new w _).step (keeps_new _ _)
  go_enter Tryd.func20, Tryd.ntmps20
  go_wp2_with fail
  have V : ∀ n, (convert 42 9 (.slice (some ⟨w.heap.size, 0, none⟩) 32 32)).run Tryd.prog (((w.alloc (.cells (enc p).toArray 24)).alloc (.cells (enc q).toArray 24)).drewN n) = .ok (.string (text p)) (((w.alloc (.cells (enc p).toArray 24)).alloc (.cells (enc q).toArray 24)).drewN n) := fun n => conv_text h1 n
  have V2 : ∀ n, (convert 42 9 (.slice (some ⟨w.heap.size + 1, 0, none⟩) 32 32)).run Tryd.prog (((w.alloc (.cells (enc p).toArray 24)).alloc (.cells (enc q).toArray 24)).drewN n) = .ok (.string (text q)) (((w.alloc (.cells (enc p).toArray 24)).alloc (.cells (enc q).toArray 24)).drewN n) := fun n => conv_text h2 n
  have KA : Aside (Keeps w ((w.alloc (.cells (enc p).toArray 24)).alloc (.cells (enc q).toArray 24))) := k1
  clear h1 h2 k1
  go_quiet (fail)
  go_wp2_with fail
  go_ret
  exact ⟨by rw [show lt p q = Op.bytesLess (text p).toList (text q).toList by rw [text_list, text_list]; rfl]; rfl, below_drewN KA.out nq⟩
end Go.Proofs.YtmaigbfmbhknhaaDoor.prints
