/- The document's Drop. -/
import Derived.Test.YtelofhplpeeplaaDoorWrRlate
import Derived.Test.YtelofhplpeeplaaDoorWrTests
import Derived.Deep.QuietTactic
import Derived.BigQuiet
import Derived.Test.YtelofhplpeeplaaDoorWrRask
set_option linter.unusedSimpArgs false
set_option linter.unusedVariables false
namespace Go.Proofs.YtelofhplpeeplaaDoor.wire
open Go.RowKit Go.Proofs.YtelofhplpeeplaaDoor.errs

set_option maxRecDepth 100000 in
set_option maxHeartbeats 4000000 in
theorem rdropapp_any (app : ByteArray) (kind : Int) (text : ByteArray) (mb base : Nat) (vl vs : Value) (N : Nat) (L : List Rq) (w : World) (hB : Rb w mb base vl vs N L) (hn : L.length ≤ 100000) :
    Calls Tryd.prog 17 #[.pointer (some ⟨mb, 0, none⟩), .string app, .agg #[.int .i64 kind, .string text]] w fun e w' => e = .returned (.int .i64 ((L.filter (isFor app kind text)).length : Int)) ∧ RLeft w mb base vl vs N (L.filter (fun x => !isFor app kind text x)) w' := by
  have RD := fun (C : List Rq) i vl vs hi hn w hB => rdrop_any mb base i vl vs N C hi hn w hB
  have HB : Aside (Rb w mb base vl vs N L) := hB
  obtain ⟨n, hLn⟩ : ∃ n, Hid (L.length = n) := ⟨_, rfl⟩
  rw [hLn.out] at hn
  clear hB
  obtain ⟨W1, hW1⟩ : ∃ W1, w.alloc (.cells #[.int .i64 kind, .string text] 43) = W1 := ⟨_, rfl⟩
  have A1 : Aside (Rb W1 mb base vl vs N L ∧ Below w.heap.size w W1 ∧ Blk W1 w.heap.size #[.int .i64 kind, .string text] 43) := by
    subst hW1
    exact ⟨HB.out.on (up w _), up w _, blk_new w _ _⟩
  have HW1 := Lib.hid hW1
  clear hW1
  obtain ⟨p, hp⟩ : ∃ p, Hid (isFor app kind text = p) := ⟨_, rfl⟩
  rw [hp.out]
  have HNO : Hid (∀ k, Its mb vl vs k → k ≠ w.heap.size) := fun k hk => by have := (HB.out.lt k hk).2; omega
  go_enter Tryd.func17, Tryd.ntmps17
  go_wp2_with fail
  rw [HW1.out]
  go_loopg [7, 8] n (fun q t7 t8 wr => ∃ (k i c : Nat) (vl' vs' : Value), t7 = .int .i64 (c : Int) ∧ t8 = .int .i64 (i : Int) ∧ q + k = n ∧ Aside (i = ((L.take k).filter (fun x => !p x)).length ∧ c = ((L.take k).filter p).length ∧ Rb wr mb base vl' vs' N (Cur p L k) ∧ But (Its mb vl vs) w wr ∧ (∀ k, Its mb vl' vs' k → Its mb vl vs k ∨ w.heap.size ≤ k) ∧ Blk wr w.heap.size #[.int .i64 kind, .string text] 43 ∧ ∀ k, Its mb vl' vs' k → k ≠ w.heap.size))
  case atStart =>
    exact ⟨0, 0, 0, vl, vs, rfl, rfl, rfl, by simp, by simp, by rw [cur_start]; exact A1.out.1, but_below A1.out.2.1 (Nat.le_refl _), fun k hk => .inl hk, A1.out.2.2, HNO.out⟩
  case round =>
    obtain ⟨k, i, c, vl', vs', rfl, rfl, hq, hA⟩ := hrel
    have y0 : (0 : Int) ≤ (i : Int) := by omega
    have hk : k ≤ L.length := by rw [hLn.out]; omega
    have hcl := cur_len p L k hk
    rw [← hA.out.1, hLn.out] at hcl
    obtain ⟨m, hm⟩ : ∃ m, Hid ((Cur p L k).length = m) := ⟨_, rfl⟩
    rw [hm.out] at hcl
    have HM : Hid (m ≤ 100000 ∧ c ≤ 100000) := by
      have h9 : i ≤ k := by rw [hA.out.1]; exact filt_le _ _ _
      have h8 : c ≤ k := by rw [hA.out.2.1]; exact filt_le _ _ _
      exact ⟨by omega, by omega⟩
    obtain ⟨a, cap, hv, s1, s2, s3⟩ := own_form hA.out.2.2.1.rows
    have c0 := hA.out.2.2.1.blk.get 0
    have h0 := hA.out.2.2.2.2.2.1.get 0
    have h1 := hA.out.2.2.2.2.2.1.get 1
    simp only [List.getElem?_toArray, List.getElem?_cons_zero, List.getElem?_cons_succ] at c0 h0 h1
    rw [hv, hm.out] at c0
    rw [hm.out] at s1 s3
    clear hv
    by_cases hlt : k < n
    · have hkL : k < L.length := by rw [hLn.out]; exact hlt
      have y1 : (i : Int) < (m : Int) := by omega
      obtain ⟨g, rfl, hc⟩ := s3 (by omega)
      have him : i < (Cur p L k).length := by rw [hm.out]; omega
      have hat := cur_at p L k hkL
      rw [← hA.out.1] at hat
      have cc : ∀ j, j < 6 → wr.cell? ⟨g, i * 6 + j, none⟩ = (enc6 (at_ L k))[j]? := fun j hj => by
        rw [← hat, ← flatE_at len6 (Cur p L k) i j him hj]
        exact hc (i * 6 + j) (by omega)
      have e1 := cc 1 (by omega)
      have e3 := cc 3 (by omega)
      have e4 := cc 4 (by omega)
      obtain ⟨x, hxx⟩ : ∃ x, Hid (at_ L k = x) := ⟨_, rfl⟩
      rw [hxx.out] at e1 e3 e4
      simp only [enc6, List.getElem?_cons_zero, List.getElem?_cons_succ, Nat.add_zero] at e1 e3 e4
      have e4' : wr.cell? ⟨g, i * 6 + 3 + 1, none⟩ = some (.string x.text) := e4
      have hpx : p x = ((x.app.toList == app.toList) && ((x.kind == kind) && (x.text.toList == text.toList))) := by rw [← hp.out]; rfl
      have HE := fun w => host_eql x.kind kind x.text text w
      have hwc : IntKind.i64.wrap ((c : Int) + 1) = ((c + 1 : Nat) : Int) := by rw [IntWalk.i64_in _ (by have := HM.out.2; omega)]; omega
      clear cc hc hat
      generalize ((x.kind == kind) && (x.text.toList == text.toList)) = q2 at *
      obtain ⟨q1, hq1⟩ : ∃ q1, (x.app.toList == app.toList) = q1 := ⟨_, rfl⟩
      rw [hq1] at hpx
      have YES : Aside (p x = true → (Cur p L k).eraseIdx i = Cur p L (k + 1) ∧ i = ((L.take (k + 1)).filter (fun x => !p x)).length ∧ c + 1 = ((L.take (k + 1)).filter p).length) := fun h => by
        have h1 : p (at_ L k) = true := by rw [hxx.out, h]
        exact ⟨by rw [hA.out.1]; exact cur_out p L k hkL h1, by rw [filt_no (fun x => !p x) L k hkL (by rw [h1]; rfl)]; exact hA.out.1, by rw [filt_next p L k hkL, if_pos h1, List.length_append, hA.out.2.1]; rfl⟩
      have NO : Aside (p x = false → Cur p L (k + 1) = Cur p L k ∧ i + 1 = ((L.take (k + 1)).filter (fun x => !p x)).length ∧ c = ((L.take (k + 1)).filter p).length) := fun h => by
        have h1 : p (at_ L k) = false := by rw [hxx.out, h]
        obtain ⟨q1, q2⟩ := cur_stay p L k hkL h1
        exact ⟨q1, by rw [q2, ← hA.out.1], by rw [filt_no p L k hkL h1]; exact hA.out.2.1⟩
      have HX := Lib.hid hpx
      clear hpx hxx
      cases q1 with
      | false =>
        have K := Lib.hid (NO.out HX.out)
        clear YES NO HX RD HE
        go_wp2_with fail
        go_quiet (fail)
        go_wp2_with fail
        have K5 : Aside (i + 1 = ((L.take (k + 1)).filter (fun x => !p x)).length ∧ c = ((L.take (k + 1)).filter p).length ∧ Rb (wr.drewN nq) mb base vl' vs' N (Cur p L (k + 1)) ∧ But (Its mb vl vs) w (wr.drewN nq) ∧ (∀ k, Its mb vl' vs' k → Its mb vl vs k ∨ w.heap.size ≤ k) ∧ Blk (wr.drewN nq) w.heap.size #[.int .i64 kind, .string text] 43 ∧ ∀ k, Its mb vl' vs' k → k ≠ w.heap.size) :=
          ⟨K.out.2.1, K.out.2.2, by rw [K.out.1]; exact hA.out.2.2.1.on (below_drawN (Below.refl _ _) _), hA.out.2.2.2.1.on (below_drawN (Below.refl wr.heap.size _) _) (Nat.le_refl _), hA.out.2.2.2.2.1, hA.out.2.2.2.2.2.1, hA.out.2.2.2.2.2.2⟩
        go_roundg (gk - 1)
        case measure => omega
        case rel => exact ⟨k + 1, i + 1, c, vl', vs', rfl, by go_num, by omega, K5.out⟩
      | true =>
        cases q2 with
        | false =>
          have K := Lib.hid (NO.out HX.out)
          clear YES NO HX RD
          go_wp2_with fail
          go_quiet (fail)
          go_wp2_with fail
          have K5 : Aside (i + 1 = ((L.take (k + 1)).filter (fun x => !p x)).length ∧ c = ((L.take (k + 1)).filter p).length ∧ Rb (wr.drewN nq) mb base vl' vs' N (Cur p L (k + 1)) ∧ But (Its mb vl vs) w (wr.drewN nq) ∧ (∀ k, Its mb vl' vs' k → Its mb vl vs k ∨ w.heap.size ≤ k) ∧ Blk (wr.drewN nq) w.heap.size #[.int .i64 kind, .string text] 43 ∧ ∀ k, Its mb vl' vs' k → k ≠ w.heap.size) :=
            ⟨K.out.2.1, K.out.2.2, by rw [K.out.1]; exact hA.out.2.2.1.on (below_drawN (Below.refl _ _) _), hA.out.2.2.2.1.on (below_drawN (Below.refl wr.heap.size _) _) (Nat.le_refl _), hA.out.2.2.2.2.1, hA.out.2.2.2.2.2.1, hA.out.2.2.2.2.2.2⟩
          go_roundg (gk - 1)
          case measure => omega
          case rel => exact ⟨k + 1, i + 1, c, vl', vs', rfl, by go_num, by omega, K5.out⟩
        | true =>
          have K := Lib.hid (YES.out HX.out)
          have D := fun W hB => RD (Cur p L k) i vl' vs' him (by rw [hm.out]; exact HM.out.1) W hB
          clear YES NO HX RD him
          go_wp2_with fail
          go_quiet (fail)
          obtain ⟨W3, hW3⟩ : ∃ W3, W3 = wr.drewN nq := ⟨_, rfl⟩
          rw [← hW3]
          have A3 : Aside (Rb W3 mb base vl' vs' N (Cur p L k) ∧ But (Its mb vl vs) w W3 ∧ Blk W3 w.heap.size #[.int .i64 kind, .string text] 43) := by
            rw [hW3]
            exact ⟨hA.out.2.2.1.on (below_drawN (Below.refl _ _) _), hA.out.2.2.2.1.on (below_drawN (Below.refl wr.heap.size _) _) (Nat.le_refl _), hA.out.2.2.2.2.2.1⟩
          have D3 := D W3 A3.out.1
          clear hW3 D c0 h0 h1 e1 e3 e4 e4'
          go_wp2_with fail
          refine D3.mono ?_; rintro e w5 ⟨rfl, vl5, vs5, d1, d2, d3⟩
          have K5 : Aside (i = ((L.take (k + 1)).filter (fun x => !p x)).length ∧ c + 1 = ((L.take (k + 1)).filter p).length ∧ Rb w5 mb base vl5 vs5 N (Cur p L (k + 1)) ∧ But (Its mb vl vs) w w5 ∧ (∀ k, Its mb vl5 vs5 k → Its mb vl vs k ∨ w.heap.size ≤ k) ∧ Blk w5 w.heap.size #[.int .i64 kind, .string text] 43 ∧ ∀ k, Its mb vl5 vs5 k → k ≠ w.heap.size) := by
            have hmb : mb ≠ w.heap.size := HNO.out mb (.inl rfl)
            have hsz := A3.out.2.2.lt
            refine ⟨K.out.2.1, K.out.2.2, by rw [← K.out.1]; exact d1, A3.out.2.1.then d2 (fun k hk => .inl (.inl hk)), fun j hj => ?_, d2.blk A3.out.2.2 (fun e => hmb e.symm), fun j hj => ?_⟩
            · rcases d3 j hj with rfl | h
              · exact .inl (.inl rfl)
              · exact .inr (Nat.le_trans A3.out.2.1.size h)
            · rcases d3 j hj with rfl | h
              · exact hmb
              · omega
          clear d1 d2 d3 D3 A3 hA
          go_wp2_with fail
          go_roundg (gk - 1)
          case measure => omega
          case rel => exact ⟨k + 1, i, c + 1, vl5, vs5, rfl, rfl, by omega, K5.out⟩
    · have y1 : ¬ (i : Int) < (m : Int) := by omega
      have K5 : Aside (c = (L.filter p).length ∧ RLeft w mb base vl vs N (L.filter (fun x => !p x)) wr) := by
        have e1 : L.take k = L := List.take_of_length_le (by have := hLn.out; omega)
        have h2 := hA.out.2
        rw [e1, cur_end p L k (by have := hLn.out; omega)] at h2
        exact ⟨h2.1, vl', vs', h2.2.1, h2.2.2.1, h2.2.2.2.1⟩
      clear hA RD s3
      go_wp2_with fail
      go_ret
      exact ⟨by rw [← K5.out.1]; rfl, K5.out.2⟩
end Go.Proofs.YtelofhplpeeplaaDoor.wire
/- Rows of requests that are one; URLs of Apple's documents. -/
set_option linter.unusedSimpArgs false
set_option linter.unusedVariables false
namespace Go.Proofs.YtelofhplpeeplaaDoor.wire
open Go.RowKit Go.Proofs.YtelofhplpeeplaaDoor.errs

set_option maxRecDepth 100000 in
theorem req_ne (x : Rq) (w : World) : (binOp .neq 45 (.agg (arr6 x)) (.agg (arr6 x))).run Tryd.prog w = .ok (.bool false) w := by
  have ht : Tryd.prog.underlying 45 = some (.struct (Tryd.prog.fieldsOf 45)) := by kernel_rfl
  have hp : Tryd.prog.stoodInHeld 45 = false := by kernel_rfl
  have ht2 : Tryd.prog.underlying 43 = some (.struct (Tryd.prog.fieldsOf 43)) := by kernel_rfl
  have hp2 : Tryd.prog.stoodInHeld 43 = false := by kernel_rfl
  have hc2 : Tryd.prog.cellsOf 43 = 2 := by kernel_rfl
  rw [run_neq_struct, show (10000 : Nat) = 9996 + 1 + 1 + 1 + 1 from rfl, run_equalIn_agg w (9996 + 1 + 1 + 1) _ _ _ ht hp]
  have hf : Tryd.prog.fieldsOf 45 = (match Tryd.prog.underlying 45 with | some (.struct fs) => fs | _ => #[]) := rfl
  have hf2 : Tryd.prog.fieldsOf 43 = (match Tryd.prog.underlying 43 with | some (.struct fs) => fs | _ => #[]) := rfl
  have hh : ∀ (d : Nat) (k : Int) (t : ByteArray) w, (Op.equalIn (d + 1 + 1) 43 (.agg #[.int .i64 k, .string t]) (.agg #[.int .i64 k, .string t])).run Tryd.prog w = .ok true w := fun d k t w => by
    rw [run_equalIn_agg w (d + 1) _ _ _ ht2 hp2, hf2, Tryd.underlying43]
    have s1 := Tryd.underlying9
    have s2 := Tryd.underlying3
    simp [Op.eqFields, part, isAgg, underlying, s1, s2, Result.andThen, run_equalIn_string, run_equalIn_int]
  rw [hf, Tryd.underlying45]
  have s1 := Tryd.underlying9
  have s2 := Tryd.underlying4
  have s3 := Tryd.underlying22
  have s4 := Tryd.underlying43
  simp [Op.eqFields, part, isAgg, underlying, s1, s2, s3, s4, hc2, hh, Result.andThen, run_equalIn_string, run_equalIn_bool', run_equalIn_int]

set_option maxRecDepth 100000 in
set_option maxHeartbeats 1000000 in
theorem rsame_any (M : List Rq) (B1 B2 : Nat) (r1 r2 : Value) (w : World) (h1 : w.ownsRow B1 45 6 r1 M.length (flatE enc6 M)) (h2 : w.ownsRow B2 45 6 r2 M.length (flatE enc6 M)) (hn : M.length ≤ 100000) :
    Calls Tryd.prog 13 #[r1, r2] w fun e w' => e = .returned (.bool true) ∧ Below w.heap.size w w' := by
  obtain ⟨a1, cap1, rfl, s1, s2, s3⟩ := own_form h1
  obtain ⟨a2, cap2, rfl, t1, t2, t3⟩ := own_form h2
  obtain ⟨n, hLn⟩ : ∃ n, Hid (M.length = n) := ⟨_, rfl⟩
  rw [hLn.out] at s1 s3 t1 t3 hn ⊢
  clear h1 h2
  have NE := req_ne
  go_enter Tryd.func13, Tryd.ntmps13
  go_wp2_with fail
  go_loopg [5] n (fun q t wr => ∃ i : Nat, t = .int .i64 (i : Int) ∧ q + i = n ∧ Hid (Below w.heap.size w wr))
  case atStart => exact ⟨0, rfl, rfl, Below.refl _ _⟩
  case round =>
    obtain ⟨i, rfl, hq, hb⟩ := hrel
    have y0 : (0 : Int) ≤ (i : Int) := by omega
    by_cases hlt : i < n
    · have y1 : (i : Int) < (n : Int) := by omega
      obtain ⟨g, rfl, hc⟩ := s3 (by omega)
      obtain ⟨g', rfl, hc'⟩ := t3 (by omega)
      have hiM : i < M.length := by rw [hLn.out]; exact hlt
      have cc : ∀ j, j < 6 → wr.cell? ⟨g, i * 6 + j, none⟩ = (enc6 (at_ M i))[j]? ∧ wr.cell? ⟨g', i * 6 + j, none⟩ = (enc6 (at_ M i))[j]? := fun j hj => by
        obtain ⟨u, hu⟩ : ∃ u, (enc6 (at_ M i))[j]? = some u := ⟨_, List.getElem?_eq_getElem (by rw [len6]; exact hj)⟩
        have k1 := hc (i * 6 + j) (by omega)
        have k2 := hc' (i * 6 + j) (by omega)
        rw [flatE_at len6 M i j hiM hj, hu] at k1 k2
        rw [hu]
        exact ⟨(hb.out.cell (lt_of_cell k1)).trans k1, (hb.out.cell (lt_of_cell k2)).trans k2⟩
      obtain ⟨e0, d0⟩ := cc 0 (by omega)
      obtain ⟨e1, d1⟩ := cc 1 (by omega)
      obtain ⟨e2, d2⟩ := cc 2 (by omega)
      obtain ⟨e3, d3⟩ := cc 3 (by omega)
      obtain ⟨e4, d4⟩ := cc 4 (by omega)
      obtain ⟨e5, d5⟩ := cc 5 (by omega)
      have NX := fun w => NE (at_ M i) w
      generalize at_ M i = x at *
      simp only [enc6, List.getElem?_cons_zero, List.getElem?_cons_succ, Nat.add_zero] at e0 e1 e2 e3 e4 e5 d0 d1 d2 d3 d4 d5
      simp only [arr6] at NX
      clear cc hc hc' NE
      go_wp2_with fail
      go_quiet (fail)
      go_wp2_with fail
      have K := Lib.hid (below_drawN hb.out nq)
      go_roundg (gk - 1)
      case measure => omega
      case rel => exact ⟨i + 1, by go_num, by omega, K.out⟩
    · have y1 : ¬ (i : Int) < (n : Int) := by omega
      go_wp2_with fail
      go_ret
      exact ⟨rfl, hb.out⟩
end Go.Proofs.YtelofhplpeeplaaDoor.wire
/- Both books at once. -/
set_option linter.unusedSimpArgs false
set_option linter.unusedVariables false
namespace Go.Proofs.YtelofhplpeeplaaDoor.wire
open Go.RowKit Go.Proofs.YtelofhplpeeplaaDoor.errs

/-- Both books, apart from each other. -/
structure Duo (w0 wr : World) (v vl vs : Value) (N1 : Nat) (L1 : List Rq) (N2 : Nat) (L2 : List Rq) : Prop where
  bk : Bk wr w0.heap.size w0.heap.size v N1 L1
  rb : Rb wr (w0.heap.size + 1) w0.heap.size vl vs N2 L2
  dis : ∀ k, Its (w0.heap.size + 1) vl vs k → k ≠ w0.heap.size ∧ v.ownBlock ≠ some k
  below : Below w0.heap.size w0 wr
/-- A block that is none of theirs. -/
def Free (w0 wr : World) (v vl vs : Value) (q : Nat) : Prop := q < wr.heap.size ∧ q ≠ w0.heap.size ∧ v.ownBlock ≠ some q ∧ ¬ Its (w0.heap.size + 1) vl vs q
section
variable {w0 wr w1 : World} {v v' vl vs : Value} {N1 N2 N' : Nat} {L1 L2 L' : List Rq}
theorem Duo.on (h : Duo w0 wr v vl vs N1 L1 N2 L2) (hb : Below wr.heap.size wr w1) : Duo w0 w1 v vl vs N1 L1 N2 L2 :=
  ⟨h.bk.kept hb, h.rb.on hb, h.dis, h.below.trans (hb.mono h.below.size)⟩
theorem Free.on {q : Nat} (h : Free w0 wr v vl vs q) (hb : wr.heap.size ≤ w1.heap.size) : Free w0 w1 v vl vs q := ⟨Nat.lt_of_lt_of_le h.1 hb, h.2⟩
theorem Duo.new (h : Duo w0 wr v vl vs N1 L1 N2 L2) (o : Obj) : Free w0 (wr.alloc o) v vl vs wr.heap.size := by
  refine ⟨by simp, ?_, fun e => ?_, fun e => ?_⟩
  · have := h.bk.blk.lt; omega
  · have := (h.bk.row.lt _ e).2; omega
  · have := (h.rb.lt _ e).2; omega
/-- The package's book has changed. -/
theorem Duo.pkg (h : Duo w0 wr v vl vs N1 L1 N2 L2) (h1 : Bk w1 w0.heap.size w0.heap.size v' N' L') (h2 : Far w0.heap.size v.ownBlock wr w1) (h3 : v'.ownBlock = v.ownBlock ∨ ∀ q, v'.ownBlock = some q → wr.heap.size ≤ q) :
    Duo w0 w1 v' vl vs N' L' N2 L2 ∧ (∀ q, Free w0 wr v vl vs q → Free w0 w1 v' vl vs q ∧ w1.heap[q]? = wr.heap[q]?) := by
  have own : ∀ q, q < wr.heap.size → v.ownBlock ≠ some q → v'.ownBlock ≠ some q := fun q hq hn e => by
    rcases h3 with h3 | h3
    · exact hn (h3 ▸ e)
    · have := h3 q e; omega
  refine ⟨⟨h1, h.rb.kept h2.but (fun k hk e => ?_), fun k hk => ⟨(h.dis k hk).1, own k (h.rb.lt k hk).2 (h.dis k hk).2⟩, h.below.trans (h2.below h.below.size (Nat.le_refl _) (fun q hq => (h.bk.row.lt q hq).1))⟩, fun q hq => ⟨⟨Nat.lt_of_lt_of_le hq.1 h2.size, hq.2.1, own q hq.1 hq.2.2.1, hq.2.2.2⟩, h2.block q hq.1 hq.2.1 hq.2.2.1⟩⟩
  rcases e with e | e
  · exact (h.dis k hk).1 e
  · exact (h.dis k hk).2 e
/-- The document's book has changed. -/
theorem Duo.ref (h : Duo w0 wr v vl vs N1 L1 N2 L2) (h1 : RLeft wr (w0.heap.size + 1) w0.heap.size vl vs N' L' w1) :
    ∃ vl' vs', Duo w0 w1 v vl' vs' N1 L1 N' L' ∧ (∀ q, Free w0 wr v vl vs q → Free w0 w1 v vl' vs' q ∧ w1.heap[q]? = wr.heap[q]?) := by
  obtain ⟨vl', vs', r1, r2, r3⟩ := h1
  refine ⟨vl', vs', ⟨?_, r1, fun k hk => ?_, h.below.trans (r2.below h.below.size (fun k hk => (h.rb.lt k hk).1))⟩, fun q hq => ⟨⟨Nat.lt_of_lt_of_le hq.1 r2.size, hq.2.1, hq.2.2.1, fun e => ?_⟩, r2.block q hq.1 hq.2.2.2⟩⟩
  · refine ⟨r2.blk h.bk.blk (fun e => (h.dis _ e).1 rfl), h.bk.above, ?_, h.bk.apart⟩
    exact own_but h.bk.row r2 (fun q hq e => (h.dis q e).2 hq)
  · rcases r3 k hk with e | e
    · exact h.dis k e
    · exact ⟨by have := h.bk.blk.lt; omega, fun e' => by have := (h.bk.row.lt k e').2; omega⟩
  · rcases r3 q e with e | e
    · exact hq.2.2.2 e
    · have := hq.1; omega
end
theorem Blk.at_ {w w1 : World} {q : Nat} {cs : Array Value} {ty : TypeId} (h : Blk w q cs ty) (he : w1.heap[q]? = w.heap[q]?) : Blk w1 q cs ty := he.trans h

/-- Both books, and the call of the script. -/
structure Trio (w0 wr : World) (ob : Nat) (arr : Array Value) (v vl vs : Value) (N1 : Nat) (L1 : List Rq) (N2 : Nat) (L2 : List Rq) : Prop where
  duo : Duo w0 wr v vl vs N1 L1 N2 L2
  box : Blk wr ob arr 47
  free : Free w0 wr v vl vs ob
section
variable {w0 wr w1 : World} {ob : Nat} {arr : Array Value} {v v' vl vs : Value} {N1 N2 N' : Nat} {L1 L2 L' : List Rq}
theorem Trio.on (h : Trio w0 wr ob arr v vl vs N1 L1 N2 L2) (hb : Below wr.heap.size wr w1) : Trio w0 w1 ob arr v vl vs N1 L1 N2 L2 := ⟨h.duo.on hb, h.box.below hb h.box.lt, h.free.on hb.size⟩
theorem Trio.pkg (h : Trio w0 wr ob arr v vl vs N1 L1 N2 L2) (h1 : Bk w1 w0.heap.size w0.heap.size v' N' L') (h2 : Far w0.heap.size v.ownBlock wr w1) (h3 : v'.ownBlock = v.ownBlock ∨ ∀ q, v'.ownBlock = some q → wr.heap.size ≤ q) : Trio w0 w1 ob arr v' vl vs N' L' N2 L2 := by
  obtain ⟨d, f⟩ := h.duo.pkg h1 h2 h3
  exact ⟨d, h.box.at_ (f ob h.free).2, (f ob h.free).1⟩
theorem Trio.ref (h : Trio w0 wr ob arr v vl vs N1 L1 N2 L2) (h1 : RLeft wr (w0.heap.size + 1) w0.heap.size vl vs N' L' w1) : ∃ vl' vs', Trio w0 w1 ob arr v vl' vs' N1 L1 N' L' := by
  obtain ⟨vl', vs', d, f⟩ := h.duo.ref h1
  exact ⟨vl', vs', d, h.box.at_ (f ob h.free).2, (f ob h.free).1⟩
end
end Go.Proofs.YtelofhplpeeplaaDoor.wire
