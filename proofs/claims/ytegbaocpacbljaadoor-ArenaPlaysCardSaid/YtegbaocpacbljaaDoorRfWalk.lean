/- Walk of the document's tree: it calls itself. -/
import Derived.Test.YtegbaocpacbljaaDoorRfKids
namespace Go.Proofs.YtegbaocpacbljaaDoor.rf
open Go.RowKit Go.Proofs.YtegbaocpacbljaaDoor.arena
variable {w : World} {B mb : Nat} {most : Int} {vv uv : Value} {n : Nat} {V U : Nat → Int}

def part (n : Nat) (U : Nat → Int) (x i : Nat) : List Nat := x :: ((kidsOf n U x).take i).flatMap (walk n (kidsOf n U))
theorem part_zero (x : Nat) : part n U x 0 = [x] := rfl
theorem part_succ {x i : Nat} (h : i < (kidsOf n U x).length) : part n U x (i + 1) = part n U x i ++ walk n (kidsOf n U) ((kidsOf n U x).getD i 0) := by
  unfold part
  rw [List.take_succ_eq_append_getElem h, List.flatMap_append]
  simp [List.getD_eq_getElem?_getD, h]
theorem part_all (hU : Ok n U) {x : Nat} (hx : x < n) : part n U x (kidsOf n U x).length = walk n (kidsOf n U) x := by
  unfold part
  rw [List.take_length, walk_eq (kd_kids hU) hx]
theorem part_length (hU : Ok n U) {x : Nat} (hx : x < n) (i : Nat) : (part n U x i).length ≤ n := by
  have h1 := walk_length hU hx
  rw [walk_eq (kd_kids hU) hx] at h1
  have h2 : (kidsOf n U x).flatMap (walk n (kidsOf n U)) = ((kidsOf n U x).take i).flatMap (walk n (kidsOf n U)) ++ ((kidsOf n U x).drop i).flatMap (walk n (kidsOf n U)) := by
    rw [← List.flatMap_append, List.take_append_drop]
  rw [h2] at h1
  unfold part
  simp only [List.length_cons, List.length_append] at h1 ⊢
  omega
theorem walk_pos (hU : Ok n U) {x : Nat} (hx : x < n) : 0 < (walk n (kidsOf n U) x).length := by
  rw [walk_eq (kd_kids hU) hx]; simp

theorem walk_no (h : Rt w B mb most vv uv n V U) (x : Int) (hx : x < 0 ∨ (n : Int) ≤ x) : Calls Tryd.prog 28 #[.pointer (some ⟨mb, 0, none⟩), .int .i64 x] w fun e w' => e = .returned (.slice (some ⟨w.heap.size, 0, none⟩) 0 0) ∧ Below w.heap.size w w' := by
  have T := has_no h x hx
  clear h hx
  go_enter Tryd.func28, Tryd.ntmps28
  go_wp2_with fail
  refine T.mono ?_; rintro e w' ⟨rfl, rfl⟩
  go_wp2_with fail
  go_ret
  exact ⟨rfl, (Below.refl _ w).alloc (Nat.le_refl _) _⟩

set_option maxRecDepth 100000 in
set_option maxHeartbeats 4000000 in
theorem walk_yes (hU : Ok n U) (hn : n ≤ 100000) : ∀ (k x : Nat) (w : World), n - x ≤ k → x < n → Rt w B mb most vv uv n V U →
    Calls Tryd.prog 28 #[.pointer (some ⟨mb, 0, none⟩), .int .i64 (x : Int)] w fun e w' => ∃ g c, e = .returned (.slice (some ⟨g, 0, none⟩) (walk n (kidsOf n U) x).length c) ∧ Aside (w'.ownsRow w.heap.size 3 1 (.slice (some ⟨g, 0, none⟩) (walk n (kidsOf n U) x).length c) (walk n (kidsOf n U) x).length (nums (walk n (kidsOf n U) x)) ∧ Below w.heap.size w w') := by
  intro k
  induction k with
  | zero => intro x w hk hx; omega
  | succ k ih =>
    intro x w hk hx h
    have IH : Aside (∀ (y : Nat) (w : World), x < y → y < n → Rt w B mb most vv uv n V U → Calls Tryd.prog 28 #[.pointer (some ⟨mb, 0, none⟩), .int .i64 (y : Int)] w fun e w' => ∃ g c, e = .returned (.slice (some ⟨g, 0, none⟩) (walk n (kidsOf n U) y).length c) ∧ Aside (w'.ownsRow w.heap.size 3 1 (.slice (some ⟨g, 0, none⟩) (walk n (kidsOf n U) y).length c) (walk n (kidsOf n U) y).length (nums (walk n (kidsOf n U) y)) ∧ Below w.heap.size w w')) := fun y w hxy hy h => ih y w (by omega) hy h
    clear ih hk
    obtain ⟨j0, hj, hy0, hy1, hy2⟩ := info_parts infoInt
    have HH : Aside (Rt w B mb most vv uv n V U ∧ Ok n U) := ⟨h, hU⟩
    have T := has_yes h x hx
    have b1 : Below w.heap.size w (w.alloc (.cells #[.int .i64 (x : Int)] 3)) := (Below.refl _ w).alloc (Nat.le_refl _) _
    have KS := kids_yes (h.below b1) x hx hn
    rw [World.size_alloc] at KS
    have hkl := kidsOf_length n U x
    clear h hU
    go_enter Tryd.func28, Tryd.ntmps28
    go_wp2_with fail
    refine T.mono ?_; rintro e w' ⟨rfl, rfl⟩
    go_wp2_with fail
    refine KS.mono ?_; rintro e w1 ⟨kb, kc, rfl, hK⟩
    have HB1 : Aside (Below w.heap.size w w1 ∧ w.heap.size + 1 ≤ kb ∧ kb < w1.heap.size) := ⟨b1.trans (hK.out.2.mono (by simp)), (hK.out.1.lt kb rfl).1, (hK.out.1.lt kb rfl).2⟩
    have HK : Aside (w1.ownsRow (w.heap.size + 1) 3 1 (.slice (some ⟨kb, 0, none⟩) (kidsOf n U x).length kc) (kidsOf n U x).length (nums (kidsOf n U x))) := hK.out.1
    have HO1 : Aside (w1.ownsRow w.heap.size 3 1 (.slice (some ⟨w.heap.size, 0, none⟩) 1 1) 1 (nums [x])) := own_of_block (World.ownsRow_lit w #[.int .i64 (x : Int)] 1 (Nat.le_refl _) (by decide) rfl) fun g hg => by
      obtain rfl : w.heap.size = g := by simpa [Value.ownBlock] using hg
      exact hK.out.2.block _ (by simp)
    clear b1 hK
    go_wp2_with fail
    go_loopg [5, 7] (kidsOf n U x).length (fun q s t wr => ∃ (i ob oc : Nat), t = .int .i64 i ∧ i ≤ (kidsOf n U x).length ∧ s = .slice (some ⟨ob, 0, none⟩) (part n U x i).length oc ∧ Hid (i + q = (kidsOf n U x).length) ∧ Aside (wr.ownsRow w.heap.size 3 1 (.slice (some ⟨ob, 0, none⟩) (part n U x i).length oc) (part n U x i).length (nums (part n U x i)) ∧ Below w.heap.size w wr ∧ ob ≠ kb ∧ w1.heap.size ≤ wr.heap.size ∧ wr.heap[kb]? = w1.heap[kb]?))
    case atStart => exact ⟨0, w.heap.size, 1, rfl, Nat.zero_le _, rfl, Nat.zero_add _, HO1.out, HB1.out.1, by have := HB1.out.2.1; omega, Nat.le_refl _, rfl⟩
    case round =>
      clear HO1
      obtain ⟨i, ob, oc, rfl, hi, rfl, hq, hO⟩ := hrel
      by_cases hlt : i < (kidsOf n U x).length
      · obtain ⟨q, hq2⟩ : ∃ q, Hid (gk = q + 1) := ⟨gk - 1, by have := hq.out; show gk = _; omega⟩
        have hmem : (kidsOf n U x).getD i 0 ∈ kidsOf n U x := by
          rw [List.getD_eq_getElem?_getD, List.getElem?_eq_getElem hlt]
          exact List.getElem_mem hlt
        have hkd := kd_kids HH.out.2 x _ hx hmem
        have hkr : wr.ownsRow (w.heap.size + 1) 3 1 (.slice (some ⟨kb, 0, none⟩) (kidsOf n U x).length kc) (kidsOf n U x).length (nums (kidsOf n U x)) := own_of_block HK.out fun g hg => by
          obtain rfl : kb = g := by simpa [Value.ownBlock] using hg
          exact hO.out.2.2.2.2
        have c1 : wr.cell? ⟨kb, i, none⟩ = some (.int .i64 (((kidsOf n U x).getD i 0 : Nat) : Int)) := by
          rcases own_form hkr with ⟨e1, -⟩ | ⟨g', c', e1, -, -, -, -, h5, -⟩
          · cases e1
          · simp only [Value.slice.injEq, Option.some.injEq, Addr.mk.injEq, and_true, true_and] at e1
            obtain ⟨rfl, -⟩ := e1
            rw [h5 i (by omega), nums_at _ _ hlt]
        have W := IH.out ((kidsOf n U x).getD i 0) wr hkd.1 hkd.2 (HH.out.1.below hO.out.2.1)
        have hps := part_succ hlt
        have hpl := part_length HH.out.2 hx (i + 1)
        have hwp := walk_pos HH.out.2 hkd.2
        rw [hps, List.length_append] at hpl
        have HP := Lib.hid hps
        have y0 : (0 : Int) ≤ (i : Int) := by omega
        have y1 : (i : Int) < ((kidsOf n U x).length : Int) := by omega
        clear hps hkr hmem hkd
        generalize (kidsOf n U x).getD i 0 = y at *
        generalize walk n (kidsOf n U) y = l2 at *
        go_wp2_with fail
        refine W.mono ?_; rintro e w2 ⟨g2, c2, rfl, h2⟩
        have hbel2 : Below w.heap.size w w2 := hO.out.2.1.trans (h2.out.2.mono hO.out.2.1.size)
        have HW : Hid (w2.ownsRow w.heap.size 3 1 (.slice (some ⟨ob, 0, none⟩) (part n U x i).length oc) (part n U x i).length (nums (part n U x i))) := own_of_block hO.out.1 fun g hg => h2.out.2.block g (hO.out.1.lt g hg).2
        have HC := Lib.hid (h2.out.1.cells (g := g2) rfl)
        have hlp : (nums l2).length = l2.length * 1 := by rw [nums_length, Nat.mul_one]
        have hbs := hbel2.size
        have hkb2 : Aside (w2.heap[kb]? = w1.heap[kb]? ∧ kb < w2.heap.size ∧ w1.heap.size ≤ w2.heap.size ∧ Below w.heap.size w w2) := by
          have h3 := HB1.out.2.2
          have h4 := hO.out.2.2.2.1
          have h5 := h2.out.2.size
          exact ⟨(h2.out.2.block kb (by omega)).trans hO.out.2.2.2.2, by omega, by omega, hbel2⟩
        have HLP := Lib.hid hlp
        clear hbel2 hlp c1
        go_wp2_with (at_builtin; refine wpList_append_lies _ rfl _ _ 27 rfl w.heap.size 3 j0 _ 1 8 Tryd.underlying27 hj hy0 hy1 hy2 rfl (by decide) (.slice (some ⟨ob, 0, none⟩) (part n U x i).length oc) (part n U x i).length (nums (part n U x i)) rfl HW.out ⟨g2, 0, none⟩ l2.length c2 (nums l2) rfl HLP.out HC.out (nums_one l2) hwp (by unfold maxLen; omega) (by omega) hbs w2.heap.size rfl ?_; intro g3 c3 w3 hown hgrow hat hl3; have H3 : Aside (w3.ownsRow w.heap.size 3 1 (.slice (some ⟨g3, 0, none⟩) ((part n U x i).length + l2.length) c3) ((part n U x i).length + l2.length) (nums (part n U x i) ++ nums l2) ∧ w2.grownBy w3 (some ob) ∧ (some ob = some g3 ∨ g3 = w2.heap.size)) := ⟨hown, hgrow, hat⟩; clear hown hgrow hat hl3)
        go_roundg q
        case measure => have := hq2.out; omega
        case rel =>
          have e3 : (part n U x (i + 1)).length = (part n U x i).length + l2.length := by rw [HP.out, List.length_append]
          obtain ⟨k1, k2, k3, k4⟩ := hkb2.out
          obtain ⟨m1, m2, m3⟩ := H3.out
          refine ⟨i + 1, g3, c3, by go_num, by omega, by rw [e3], by have := hq.out; have := hq2.out; show _ = _; omega, ?_, k4.grown m2 k4.size (fun k e => by obtain rfl := Option.some.inj e; exact (hO.out.1.lt ob rfl).1), ?_, Nat.le_trans k3 m2.size, (m2.block kb k2 (fun e => hO.out.2.2.1 (Option.some.inj e).symm)).trans k1⟩
          · rw [e3, HP.out, nums_append]; exact m1
          · rcases m3 with e | e
            · exact fun e2 => hO.out.2.2.1 ((Option.some.inj e).trans e2)
            · omega
      · obtain rfl : i = (kidsOf n U x).length := by omega
        go_wp2_with fail
        go_ret
        have e := part_all HH.out.2 hx
        exact ⟨ob, oc, by rw [← e]; rfl, by have := hO.out.1; rw [e] at this; exact this, hO.out.2.1⟩
end Go.Proofs.YtegbaocpacbljaaDoor.rf
