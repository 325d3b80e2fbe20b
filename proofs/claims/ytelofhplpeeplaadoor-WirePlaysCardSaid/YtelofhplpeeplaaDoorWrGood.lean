/- Book.Take, Late, Drop: who is taken out. -/
import Derived.Test.YtelofhplpeeplaaDoorWrTests
import Derived.Test.YtelofhplpeeplaaDoorWrAsk
set_option linter.unusedSimpArgs false
set_option linter.unusedVariables false
namespace Go.Proofs.YtelofhplpeeplaaDoor.wire
open Go.RowKit Go.Proofs.YtelofhplpeeplaaDoor.errs

theorem up (w : World) (o : Obj) : Below w.heap.size w (w.alloc o) := (Below.refl _ _).alloc (Nat.le_refl _) _
theorem Far.below0 {bb : Nat} {g : Option Nat} {w0 w w' : World} (h : Far bb g w w') (hb : Below w0.heap.size w0 w) : Far bb g w0 w' :=
  (far_below hb (Nat.le_refl _)).trans h
theorem Far.cellNew {bb : Nat} {g : Option Nat} {w w' : World} (h : Far bb g w w') {p : Addr} {u : Value} (hc : w.cell? p = some u) (h1 : p.block ≠ bb) (h2 : g ≠ some p.block) : w'.cell? p = some u :=
  (World.cell?_of_block (h.block _ (lt_of_cell hc) h1 h2)).trans hc
theorem row_base {w : World} {B B' : Nat} {r : Value} {n : Nat} {xs : List Value} (h : w.ownsRow B' 45 6 r n xs) (hB : B ≤ B') : w.ownsRow B 45 6 r n xs := by
  refine ⟨h.1, ?_⟩
  rcases h.2 with h | ⟨g, cap, cur, hv, hg, h⟩
  · exact .inl h
  · exact .inr ⟨g, cap, cur, hv, Nat.le_trans hB hg, h⟩
theorem row_slice {w : World} {B : Nat} {r : Value} {M : List Rq} (h : w.ownsRow B 45 6 r M.length (flatE enc6 M)) : ∃ a c, r = .slice a M.length c := by
  rcases h.2 with ⟨rfl, hn⟩ | ⟨g, cap, cur, rfl, -⟩
  · exact ⟨none, 0, by rw [hn]⟩
  · exact ⟨_, _, rfl⟩
theorem row_head {w : World} {B : Nat} {a : Option Addr} {c : Nat} {x : Rq} {M : List Rq} (h : w.ownsRow B 45 6 (.slice a (x :: M).length c) (x :: M).length (flatE enc6 (x :: M))) : ∃ g, a = some ⟨g, 0, none⟩ ∧ ∀ i, i < 6 → w.cell? ⟨g, i, none⟩ = (enc6 x)[i]? := by
  rcases h.2 with ⟨-, hn⟩ | ⟨g, cap, cur, hv, -⟩
  · cases hn
  · have hv2 := hv
    cases hv
    refine ⟨g, rfl, fun i hi => ?_⟩
    rw [h.cellAt i (by rw [List.length_cons]; omega)]
    have := flatE_at len6 (x :: M) 0 i (by simp) hi
    rw [Nat.zero_mul, Nat.zero_add] at this
    rw [this]
    rfl

/-- What Take answers. -/
def TakeIs (w : World) (id : Nat) (L : List Rq) (e : Ending) (w' : World) : Prop :=
  match L.filter (fun x => (x.id : Int) == (id : Int)) with
  | [] => ∃ b, e = .returned (.tuple #[.agg zero6, .iface 65 (.pointer (some ⟨b, 0, none⟩))]) ∧ FaultAt w' (.iface 65 (.pointer (some ⟨b, 0, none⟩))) 30 0 .nilIface ∧ w.heap.size ≤ b
  | x :: _ => e = .returned (.tuple #[.agg (arr6 x), .nilIface])

/-- What a call that takes out leaves. -/
def Left (p : Rq → Bool) (w : World) (bb base : Nat) (v : Value) (N : Nat) (L : List Rq) (w' : World) : Prop :=
  ∃ v', Bk w' bb base v' N (L.filter (fun x => !p x)) ∧ v'.ownBlock = v.ownBlock ∧ Far bb v.ownBlock w w'
theorem Left.on {p : Rq → Bool} {w : World} {bb base : Nat} {v : Value} {N : Nat} {L : List Rq} {w' w2 : World} (h : Left p w bb base v N L w') (hb : Below w'.heap.size w' w2) : Left p w bb base v N L w2 := by
  obtain ⟨v', h1, h2, h3⟩ := h
  exact ⟨v', h1.kept hb, h2, h3.trans (far_below hb (Nat.le_refl _))⟩
theorem Left.set {p : Rq → Bool} {w : World} {bb base : Nat} {v : Value} {N : Nat} {L : List Rq} {w' : World} (h : Left p w bb base v N L w') (c i : Nat) (u : Value) (hc : c ≠ bb) (hv : v.ownBlock ≠ some c) (hw : w.heap.size ≤ c) : Left p w bb base v N L (w'.setCell ⟨c, i, none⟩ u) := by
  obtain ⟨v', h1, h2, h3⟩ := h
  obtain ⟨k1, k2, -⟩ := Pack.set ⟨h1, h3, hc, by rw [h2]; exact hv, hw⟩ i u
  exact ⟨v', k1, h2, k2⟩

set_option maxRecDepth 100000 in
set_option maxHeartbeats 2000000 in
theorem late_any (now : Nat) (hnow : now ≤ 1000000) (bb base : Nat) (v : Value) (N : Nat) (L : List Rq) (w : World) (hB : Bk w bb base v N L) (hn : L.length ≤ 100000) :
    Calls Tryd.prog 14 #[.pointer (some ⟨bb, 0, none⟩), .int .u64 (now : Int)] w fun e w' => (∃ r, e = .returned r ∧ w'.ownsRow w.heap.size 45 6 r (L.filter (late now)).length (flatE enc6 (L.filter (late now)))) ∧ Left (late now) w bb base v N L w' := by
  have hbl := hB.blk.lt
  have hv := hB.row.lt
  have W1 := up w (.cells #[.int .u64 (now : Int)] 22)
  have B1 := hB.kept W1
  have c0 := (blk_new w #[.int .u64 (now : Int)] 22).get 0
  simp only [List.getElem?_toArray, List.getElem?_cons_zero] at c0
  have e1 : w.heap.size ≠ bb := by omega
  have e2 : v.ownBlock ≠ some w.heap.size := fun e => by have := hv _ e; omega
  have T := takeOut_any 32 #[.pointer (some ⟨w.heap.size, 0, none⟩)] (late now) bb base N v L _ B1 hn (enters_of Tryd.func32 (by kernel_rfl) rfl) (fun x _ W hW => test_late x w.heap.size now W (hW.cellNew c0 e1 e2) hnow)
  have HB1 := Lib.hid W1
  clear hB hn B1 W1 c0 e1 e2 hv hbl
  go_enter Tryd.func14, Tryd.ntmps14
  go_wp2_with fail
  refine T.mono ?_; rintro e w2 ⟨⟨r, rfl, hr⟩, ⟨v', hb, hs⟩, hf⟩
  have K : Hid (w2.ownsRow w.heap.size 45 6 r (L.filter (late now)).length (flatE enc6 (L.filter (late now))) ∧ Left (late now) w bb base v N L w2) := ⟨row_base hr (by simp), v', hb, hs, hf.below0 HB1.out⟩
  clear hr hb hs hf HB1 T
  go_wp2_with fail
  go_ret
  exact ⟨⟨r, rfl, K.out.1⟩, K.out.2⟩

set_option maxRecDepth 100000 in
set_option maxHeartbeats 2000000 in
theorem drop_any (app : ByteArray) (kind : Int) (text : ByteArray) (bb base : Nat) (v : Value) (N : Nat) (L : List Rq) (w : World) (hB : Bk w bb base v N L) (hn : L.length ≤ 100000) :
    Calls Tryd.prog 16 #[.pointer (some ⟨bb, 0, none⟩), .string app, .agg #[.int .i64 kind, .string text]] w fun e w' => e = .returned (.int .i64 ((L.filter (isFor app kind text)).length : Int)) ∧ Left (isFor app kind text) w bb base v N L w' := by
  have hbl := hB.blk.lt
  have hv := hB.row.lt
  have W1 := up w (.cells #[.string app] 9)
  have W2 := W1.trans ((up (w.alloc (.cells #[.string app] 9)) (.cells #[.int .i64 kind, .string text] 43)).mono W1.size)
  have B1 := hB.kept W2
  have a0 := ((blk_new w #[.string app] 9).alloc (.cells #[.int .i64 kind, .string text] 43)).get 0
  have b2 := blk_new (w.alloc (.cells #[.string app] 9)) #[.int .i64 kind, .string text] 43
  rw [show (w.alloc (.cells #[.string app] 9)).heap.size = w.heap.size + 1 by simp] at b2
  have h0 := b2.get 0
  have h1 := b2.get 1
  simp only [List.getElem?_toArray, List.getElem?_cons_zero, List.getElem?_cons_succ] at a0 h0 h1
  have e1 : w.heap.size ≠ bb := by omega
  have e2 : v.ownBlock ≠ some w.heap.size := fun e => by have := hv _ e; omega
  have e3 : w.heap.size + 1 ≠ bb := by omega
  have e4 : v.ownBlock ≠ some (w.heap.size + 1) := fun e => by have := hv _ e; omega
  have T := takeOut_any 34 #[.pointer (some ⟨w.heap.size, 0, none⟩), .pointer (some ⟨w.heap.size + 1, 0, none⟩)] (isFor app kind text) bb base N v L _ B1 hn (enters_of Tryd.func34 (by kernel_rfl) rfl) (fun x _ W hW => test_for x w.heap.size (w.heap.size + 1) app text kind W (hW.cellNew a0 e1 e2) (hW.cellNew h0 e3 e4) (hW.cellNew h1 e3 e4))
  have HB1 := Lib.hid W2
  clear hB hn B1 W1 W2 a0 b2 h0 h1 e1 e2 e3 e4 hv hbl
  go_enter Tryd.func16, Tryd.ntmps16
  go_wp2_with fail
  refine T.mono ?_; rintro e w2 ⟨⟨r, rfl, hr⟩, ⟨v', hb, hs⟩, hf⟩
  have K : Hid (Left (isFor app kind text) w bb base v N L w2) := ⟨v', hb, hs, hf.below0 HB1.out⟩
  obtain ⟨ra, rc, rfl⟩ := row_slice hr
  clear hr hb hs hf HB1 T
  go_wp2_with fail
  go_ret
  exact ⟨rfl, K.out⟩

/-- Has a request this number? -/
def hasId (id : Nat) (x : Rq) : Bool := (x.id : Int) == (id : Int)
theorem fault_here (w : World) (k a : Int) (inner : Value) (b : Nat) (hb : b = w.heap.size) : FaultAt (w.alloc (.cells #[.int .i64 k, .int .i64 a, inner] 69)) (.iface 65 (.pointer (some ⟨b, 0, none⟩))) k a inner := by
  subst hb
  exact fault_new w k a inner

set_option maxRecDepth 100000 in
set_option maxHeartbeats 4000000 in
theorem take_any (id : Nat) (bb base : Nat) (v : Value) (N : Nat) (L : List Rq) (w : World) (hB : Bk w bb base v N L) (hn : L.length ≤ 100000) :
    Calls Tryd.prog 18 #[.pointer (some ⟨bb, 0, none⟩), .int .u64 (id : Int)] w fun e w' => TakeIs w id L e w' ∧ Left (hasId id) w bb base v N L w' := by
  have hbl := hB.blk.lt
  have hv := hB.row.lt
  have W1 := up w (.cells #[.int .u64 (id : Int)] 22)
  have W2 := W1.trans ((up (w.alloc (.cells #[.int .u64 (id : Int)] 22)) (.cells zero6 45)).mono W1.size)
  have B1 := hB.kept W2
  have a0 := ((blk_new w #[.int .u64 (id : Int)] 22).alloc (.cells zero6 45)).get 0
  have b2 := blk_new (w.alloc (.cells #[.int .u64 (id : Int)] 22)) zero6 45
  rw [show (w.alloc (.cells #[.int .u64 (id : Int)] 22)).heap.size = w.heap.size + 1 by simp] at b2
  simp only [List.getElem?_toArray, List.getElem?_cons_zero, List.getElem?_cons_succ] at a0
  have e1 : w.heap.size ≠ bb := by omega
  have e2 : v.ownBlock ≠ some w.heap.size := fun e => by have := hv _ e; omega
  have e3 : w.heap.size + 1 ≠ bb := by omega
  have e4 : v.ownBlock ≠ some (w.heap.size + 1) := fun e => by have := hv _ e; omega
  have T := takeOut_any 35 #[.pointer (some ⟨w.heap.size, 0, none⟩)] (hasId id) bb base N v L _ B1 hn (enters_of Tryd.func35 (by kernel_rfl) rfl) (fun x _ W hW => test_id x w.heap.size id W (hW.cellNew a0 e1 e2))
  have HB1 : Aside (Below w.heap.size w ((w.alloc (.cells #[.int .u64 (id : Int)] 22)).alloc (.cells zero6 45)) ∧ Blk ((w.alloc (.cells #[.int .u64 (id : Int)] 22)).alloc (.cells zero6 45)) (w.heap.size + 1) zero6 45 ∧ w.heap.size + 1 ≠ bb ∧ v.ownBlock ≠ some (w.heap.size + 1)) := ⟨W2, b2, e3, e4⟩
  have F := fun w => fail_any 30 0 w
  clear hB hn B1 W1 W2 a0 b2 e1 e2 e3 e4 hv hbl
  go_enter Tryd.func18, Tryd.ntmps18
  go_wp2_with fail
  refine T.mono ?_; rintro e w2 ⟨⟨r, rfl, hr⟩, ⟨v', hb, hs⟩, hf⟩
  have d := hf.blk HB1.out.2.1 HB1.out.2.2.1 HB1.out.2.2.2
  have K : Hid (Left (hasId id) w bb base v N L w2) := ⟨v', hb, hs, hf.below0 HB1.out.1⟩
  change w2.ownsRow _ _ 6 r (L.filter (fun x => (x.id : Int) == (id : Int))).length (flatE enc6 (L.filter (fun x => (x.id : Int) == (id : Int)))) at hr
  have d0 := d.get 0
  have d1 := d.get 1
  have d2 := d.get 2
  have d3 := d.get 3
  have d4 := d.get 4
  have d5 := d.get 5
  have g0 := d.frz 0
  have g1 := d.frz 1
  have g2 := d.frz 2
  have g3 := d.frz 3
  have g4 := d.frz 4
  have g5 := d.frz 5
  simp only [List.getElem?_toArray, List.getElem?_cons_zero, List.getElem?_cons_succ] at d0 d1 d2 d3 d4 d5
  have dl := d.lt
  have HC : Aside (w.heap.size + 1 ≠ bb ∧ v.ownBlock ≠ some (w.heap.size + 1) ∧ w.heap.size ≤ w.heap.size + 1) := ⟨HB1.out.2.2.1, HB1.out.2.2.2, by omega⟩
  have END : Aside (∀ W, Left (hasId id) w bb base v N L W → ∀ a0 a1 a2 a3 a4 a5, Left (hasId id) w bb base v N L ((((((W.setCell ⟨w.heap.size + 1, 0, none⟩ a0).setCell ⟨w.heap.size + 1, 1, none⟩ a1).setCell ⟨w.heap.size + 1, 2, none⟩ a2).setCell ⟨w.heap.size + 1, 3, none⟩ a3).setCell ⟨w.heap.size + 1, 4, none⟩ a4).setCell ⟨w.heap.size + 1, 5, none⟩ a5)) := fun W h a0 a1 a2 a3 a4 a5 =>
    (((((h.set _ 0 a0 HC.out.1 HC.out.2.1 HC.out.2.2).set _ 1 a1 HC.out.1 HC.out.2.1 HC.out.2.2).set _ 2 a2 HC.out.1 HC.out.2.1 HC.out.2.2).set _ 3 a3 HC.out.1 HC.out.2.1 HC.out.2.2).set _ 4 a4 HC.out.1 HC.out.2.1 HC.out.2.2).set _ 5 a5 HC.out.1 HC.out.2.1 HC.out.2.2
  clear hb hs hf d HB1 T HC
  obtain ⟨M, hM⟩ : ∃ M, Hid (L.filter (fun x => (x.id : Int) == (id : Int)) = M) := ⟨_, rfl⟩
  rw [hM.out] at hr
  obtain ⟨ra, rc, rfl⟩ := row_slice hr
  cases M with
  | nil =>
    clear hr
    have HD : Aside (w.heap.size + 1 ≠ w2.heap.size) := by show _ ≠ _; omega
    simp only [List.length_nil]
    go_wp2_with fail
    refine (F _).mono ?_; rintro e w3 ⟨rfl, rfl⟩
    go_wp2_with fail
    refine bodyPost_ret (v := .tuple #[.agg zero6, .iface 65 (.pointer (some ⟨w2.heap.size, 0, none⟩))]) (by simp [results, Tryd.results18, go_sem, d0, d1, d2, d3, d4, d5, dl]) rfl ⟨?_, (END.out _ K.out _ _ _ _ _ _).on (up _ _)⟩
    unfold TakeIs
    rw [hM.out]
    exact ⟨_, rfl, fault_here _ _ _ _ _ (by simp), by omega⟩
  | cons x M' =>
    obtain ⟨g, rfl, hx⟩ := row_head hr
    have x0 := hx 0 (by omega)
    have x1 := hx 1 (by omega)
    have x2 := hx 2 (by omega)
    have x3 := hx 3 (by omega)
    have x4 := hx 4 (by omega)
    have x5 := hx 5 (by omega)
    simp only [enc6, List.getElem?_cons_zero, List.getElem?_cons_succ] at x0 x1 x2 x3 x4 x5
    obtain ⟨n, hn⟩ : ∃ n, M'.length = n := ⟨_, rfl⟩
    have y0 : ¬ ((n : Int) + 1 = 0) := by omega
    have y1 : (0 : Int) < (n : Int) + 1 := by omega
    have y2 : (((n : Int) + 1) == (0 : Int)) = false := beq_eq_false_iff_ne.2 (by omega)
    simp only [List.length_cons, hn]
    clear hx hr hn F
    go_wp2_with fail
    refine bodyPost_ret (v := .tuple #[.agg (arr6 x), .nilIface]) (by simp [results, Tryd.results18, go_sem, d0, d1, d2, d3, d4, d5, dl]) rfl ⟨?_, END.out _ K.out _ _ _ _ _ _⟩
    unfold TakeIs
    rw [hM.out]
end Go.Proofs.YtelofhplpeeplaaDoor.wire
/- Numbers of requests: each one once, none above how many were asked for. The script that came in. -/
set_option linter.unusedSimpArgs false
set_option linter.unusedVariables false
namespace Go.Proofs.YtelofhplpeeplaaDoor.wire
open Go.RowKit Go.Proofs.YtelofhplpeeplaaDoor.errs

/-- Each number stands once at most, and none is above N. -/
def GoodL (N : Nat) (L : List Rq) : Prop := (L.map Rq.id).Nodup ∧ ∀ x ∈ L, x.id ≤ N
theorem good_nil : GoodL 0 [] := ⟨List.nodup_nil, fun x hx => by cases hx⟩
theorem GoodL.filter {N : Nat} {L : List Rq} (h : GoodL N L) (p : Rq → Bool) : GoodL N (L.filter p) :=
  ⟨h.1.sublist (List.filter_sublist.map _), fun x hx => h.2 x (List.mem_filter.1 hx).1⟩
theorem GoodL.ask {N : Nat} {L : List Rq} (h : GoodL N L) (x : Rq) (t : Nat) : GoodL (N + 1) (L ++ [asked x (N + 1) t]) := by
  refine ⟨?_, fun y hy => ?_⟩
  · rw [List.map_append, List.nodup_append]
    refine ⟨h.1, by simp, fun a ha b hb => ?_⟩
    obtain ⟨y, hy, rfl⟩ := List.mem_map.1 ha
    have := h.2 y hy
    simp [asked] at hb
    omega
  · rcases List.mem_append.1 hy with hy | hy
    · have := h.2 y hy
      omega
    · rw [List.mem_singleton.1 hy]
      exact Nat.le_refl _
theorem filter_both (p : Rq → Bool) : ∀ L : List Rq, (L.filter p).length + (L.filter (fun x => !p x)).length = L.length
  | [] => rfl
  | x :: L => by
    have := filter_both p L
    cases hp : p x with
    | true =>
      rw [List.filter_cons_of_pos hp, List.filter_cons_of_neg (by rw [hp]; decide), List.length_cons, List.length_cons]
      omega
    | false =>
      rw [List.filter_cons_of_neg (by rw [hp]; decide), List.filter_cons_of_pos (by rw [hp]; rfl), List.length_cons, List.length_cons]
      omega
theorem hasId_iff (id : Nat) (x : Rq) : hasId id x = true ↔ x.id = id := by
  unfold hasId
  rw [beq_iff_eq]
  omega
theorem once {id : Nat} : ∀ L : List Rq, (L.map Rq.id).Nodup → (L.filter (hasId id)).length ≤ 1
  | [], _ => by simp
  | x :: L, h => by
    rw [List.map_cons, List.nodup_cons] at h
    by_cases hx : hasId id x = true
    · rw [List.filter_cons_of_pos hx]
      have : L.filter (hasId id) = [] := by
        rw [List.filter_eq_nil_iff]
        intro y hy hq
        refine h.1 ?_
        rw [(hasId_iff id x).1 hx, ← (hasId_iff id y).1 hq]
        exact List.mem_map.2 ⟨y, hy, rfl⟩
      rw [this]; simp
    · rw [List.filter_cons_of_neg hx]
      exact once L h.2
theorem again (id : Nat) (L : List Rq) : (L.filter (fun x => !hasId id x)).filter (fun x => (x.id : Int) == (id : Int)) = [] := by
  rw [List.filter_eq_nil_iff]
  intro y hy hq
  have := (List.mem_filter.1 hy).2
  have hq : hasId id y = true := hq
  rw [hq] at this
  cases this

/-- A call of the script. -/
structure OpR where
  kind : Int
  tick : Nat
  r : Rq
/-- The script that came in. -/
def IsScr (w : World) (a : Option Addr) (len cap : Nat) (f : Nat → OpR) : Prop :=
  len ≤ cap ∧ cap ≤ 9223372036854775807 ∧ (0 < len → ∃ b off, a = some ⟨b, off, none⟩ ∧ ∀ i, i < len → w.cell? ⟨b, off + i * 8, none⟩ = some (.int .i64 (f i).kind) ∧ w.cell? ⟨b, off + i * 8 + 1, none⟩ = some (.int .u64 ((f i).tick : Int)) ∧ w.cell? ⟨b, off + i * 8 + 2, none⟩ = some (.int .u64 ((f i).r.id : Int)) ∧ w.cell? ⟨b, off + i * 8 + 3, none⟩ = some (.string (f i).r.app) ∧ w.cell? ⟨b, off + i * 8 + 4, none⟩ = some (.bool (f i).r.apple) ∧ w.cell? ⟨b, off + i * 8 + 5, none⟩ = some (.int .i64 (f i).r.kind) ∧ w.cell? ⟨b, off + i * 8 + 6, none⟩ = some (.string (f i).r.text) ∧ w.cell? ⟨b, off + i * 8 + 7, none⟩ = some (.string (f i).r.url))
end Go.Proofs.YtelofhplpeeplaaDoor.wire
