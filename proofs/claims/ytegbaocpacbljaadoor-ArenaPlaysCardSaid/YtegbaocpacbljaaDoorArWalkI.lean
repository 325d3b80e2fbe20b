/- Walk of a tree: the numbers beneath one, each ahead of those beneath it. -/
import Derived.Test.YtegbaocpacbljaaDoorArLenI
import Derived.Test.YtegbaocpacbljaaDoorArWInv
import Derived.Maps.OwnIn
import Derived.Sort.LoopGhostIn
namespace Go.Proofs.YtegbaocpacbljaaDoor.arenaI
open Go.RowKit Go.Shelf Go.Proofs.YtegbaocpacbljaaDoor.arena
attribute [local go_sem] Oper.semAt_some
variable {w : World} {B tb : Nat} {most : Int} {nv : Value} {n : Nat} {V : Nat → Int} {U : Nat → Int} {K : Nat → Value} {C : Nat → List Nat}

theorem walk_no (h : Tr w B tb most nv n V U K C) (x : Int) (hx : x < 0 ∨ (n : Int) ≤ x) : Calls Tryd.prog 27 #[.pointer (some ⟨tb, 0, none⟩), .int .i64 x] w fun e w' => e = .returned (.slice none 0 0) ∧ w = w' := by
  have T := there_no h x hx
  clear h hx
  refine (callsIn_wide (n := 3)).1 ?_
  refine callsIn_of_wp_marks Tryd.func27 rfl trivial ?_ rfl
  simp only [Tryd.ntmps27, List.size_toArray, List.length_cons, List.length_nil, Nat.reduceAdd, Nat.reduceSub, Array.replicate_succ, Array.replicate_zero, List.push_toArray, List.append_toArray, List.nil_append, List.cons_append]
  gi_wp2_with fail
  refine ⟨trivial, CallsIn.mono (callsIn_wide.2 T) ?_⟩; rintro e w' ⟨rfl, rfl⟩
  gi_wp2_with fail
  exact ⟨_, results_tmp rfl _ _ _, rfl, rfl⟩

set_option maxRecDepth 100000 in
set_option maxHeartbeats 4000000 in
theorem walk_yes (h : Tr w B tb most nv n V U K (kidsOf n U)) (hU : Ok n U) (x : Nat) (hx : x < n) (hn : n ≤ 100000) :
    Calls Tryd.prog 27 #[.pointer (some ⟨tb, 0, none⟩), .int .i64 (x : Int)] w fun e w' => ∃ a c, e = .returned (.slice a (walk n (kidsOf n U) x).length c) ∧ Aside (w'.ownsRow w.heap.size 3 1 (.slice a (walk n (kidsOf n U) x).length c) (walk n (kidsOf n U) x).length (nums (walk n (kidsOf n U) x)) ∧ Below w.heap.size w w') := by
  have T := there_yes h x hx
  have HH : Aside (Tr w B tb most nv n V U K (kidsOf n U) ∧ Ok n U) := ⟨h, hU⟩
  clear h hU
  refine (callsIn_wide (n := 3)).1 ?_
  refine callsIn_of_wp_marks Tryd.func27 rfl trivial ?_ rfl
  simp only [Tryd.ntmps27, List.size_toArray, List.length_cons, List.length_nil, Nat.reduceAdd, Nat.reduceSub, Array.replicate_succ, Array.replicate_zero, List.push_toArray, List.append_toArray, List.nil_append, List.cons_append]
  gi_wp2_with fail
  refine ⟨trivial, CallsIn.mono (callsIn_wide.2 T) ?_⟩; rintro e w' ⟨rfl, rfl⟩
  gi_wp2_with fail
  refine wpIn_loop_ghost (WInv w tb x n (kidsOf n U)) (walk n (kidsOf n U) x).length ?start ?round
  case start =>
    refine ⟨.slice none 0 0, [], _, _, _, _, _, _, _, _, _, _, _, _, _, _, _, _, _, _, _, _, _, _, _, _, _, _, _, _, _, rfl, [x], [], w.heap.size, 1, by simp, by simpa using hx, by simp, List.nodup_nil, ?_⟩
    have hb := Boxed.new (w.alloc (.cells #[.int .i64 (x : Int)] 3)) 27 (.slice (some ⟨w.heap.size, 0, none⟩) 1 1)
    rw [World.size_alloc] at hb
    exact ⟨hb, (World.ownsRow_lit w #[.int .i64 (x : Int)] 1 (Nat.le_refl _) (by decide) rfl).alloc _, World.ownsRow_nil _ _ _ _, by simp [Value.ownBlock], by omega, ((Below.refl _ w).alloc (Nat.le_refl _) _).alloc (by simp) _, fun r hr => by cases hr⟩
  case round =>
    rintro g a W ⟨ov, rs, u7, u8, u16, u17, u18, u19, u20, u21, u22, u23, u24, u25, u26, u27, u28, u29, u30, u31, u32, u33, u34, u35, u36, u37, u38, u39, u40, u41, u42, rfl, s, os, gl, lc, hsum, hlt, hnum, hnd, hM⟩
    have hK := kd_kids HH.out.2
    cases s with
    | nil =>
      have hc := hM.box.cell
      have HM : Aside (Mid w (w.heap.size + 1) rs ov os gl lc ([] : List Nat).reverse W) := hM
      have HS : Aside (os = walk n (kidsOf n U) x ∧ rs.Nodup) := ⟨by simpa using hsum, hnd⟩
      clear hM hsum hnd hnum hK hlt
      gi_wp2_with fail
      obtain ⟨rfl, hnd⟩ := HS.out
      refine leaves_marks rs W hnd (fun r hr => (HM.out.marks r hr).2) fun W' hs => ?_
      have ho : W'.ownsRow w.heap.size 3 1 ov (walk n (kidsOf n U) x).length (nums (walk n (kidsOf n U) x)) := own_of_block HM.out.list fun g hg => hs.block g fun hm => (HM.out.mark_ne hm).2.2 hg
      obtain ⟨a, c, rfl, -, -⟩ := form_of ho
      exact ⟨_, results_tmp rfl _ _ _, a, c, rfl, ho, HM.out.bel.os ▸ hs.os, HM.out.bel.tape ▸ hs.tape, HM.out.bel.output ▸ hs.output, Nat.le_trans HM.out.bel.size hs.size, fun k hk => (hs.block k fun hm => by have := (HM.out.marks k hm).1; omega).trans (HM.out.bel.block k hk)⟩
    | cons i rest =>
      have hi : i < n := hlt i (List.mem_cons_self ..)
      obtain ⟨l, hl⟩ : ∃ l, l = rest.reverse := ⟨_, rfl⟩
      rw [List.reverse_cons, ← hl] at hM
      have hlen : l.length + 1 ≤ 100000 := by
        have h1 := len_left hK hlt
        have h2 := walk_length HH.out.2 hx
        rw [← hsum, List.length_append] at h2
        rw [hl, List.length_reverse]
        simp only [List.length_cons] at h1
        omega
      have holen : os.length + 1 ≤ 100001 := by
        have h2 := walk_length HH.out.2 hx
        rw [← hsum, List.length_append] at h2
        omega
      have hc := hM.box.cell
      have hf := hM.box.frozen
      rw [List.length_append, List.length_singleton] at hc
      have hci : W.cell? ⟨gl, l.length, none⟩ = some (.int .i64 (i : Int)) := by
        rcases own_form hM.left with ⟨h1, -⟩ | ⟨g', c', h1, -, -, -, -, h5, -⟩
        · cases h1
        · simp only [Value.slice.injEq, Option.some.injEq, Addr.mk.injEq, and_true, true_and] at h1
          obtain ⟨rfl, -⟩ := h1
          rw [h5 l.length (by simp), nums_at _ _ (by simp)]
          simp [List.getD_eq_getElem?_getD]
      have hlc : l.length ≤ lc := by
        rcases own_form hM.left with ⟨h1, -⟩ | ⟨g', c', h1, h2, -⟩
        · cases h1
        · simp only [Value.slice.injEq, Option.some.injEq, Addr.mk.injEq, and_true, true_and] at h1
          obtain ⟨-, rfl⟩ := h1
          rw [List.length_append, List.length_singleton] at h2
          omega
      have hM2 := hM.popped
      have HM2 : Aside (Mid w (w.heap.size + 1) rs ov os gl lc l (W.setCell ⟨w.heap.size + 1, 0, none⟩ (.slice (some ⟨gl, 0, none⟩) l.length lc))) := hM2
      have HS : Aside (os ++ (i :: rest).flatMap (walk n (kidsOf n U)) = walk n (kidsOf n U) x ∧ (∀ y ∈ i :: rest, y < n) ∧ ((i :: rest).flatMap (walk n (kidsOf n U))).length = g ∧ rs.Nodup ∧ l = rest.reverse ∧ Kd n (kidsOf n U)) := ⟨hsum, hlt, hnum, hnd, hl, hK⟩
      have hle : (W.setCell ⟨w.heap.size + 1, 0, none⟩ (.slice (some ⟨gl, 0, none⟩) l.length lc)).heap.size = W.heap.size := by simp [World.setCell]
      have hsz := hM.bel.size
      obtain ⟨j0, hj, hy0, hy1, hy2⟩ := info_parts infoInt
      obtain ⟨nb, cap, rfl, -, -, -, k4, k5, -⟩ := HH.out.1.row hi
      have HC : Aside (w.cell? ⟨tb, 1, none⟩ = some (.slice (some ⟨nb, 0, none⟩) n cap) ∧ w.cell? ⟨nb, i * 3 + 2, none⟩ = some (K i)) := ⟨HH.out.1.c1, (k5 i hi).2.2⟩
      obtain ⟨ka, kc, hki⟩ := HH.out.1.kform hi
      have HR : Aside (Rd w (.slice ka (kidsOf n U i).length kc) (kidsOf n U i) ∧ K i = .slice ka (kidsOf n U i).length kc) := ⟨hki ▸ Rd.of_own (HH.out.1.kid i hi), hki⟩
      clear k5 hki
      have x0 : (0 : Int) ≤ (i : Int) := by omega
      have x1 : (i : Int) < (n : Int) := by omega
      clear hM hM2 hsum hlt hnum hnd hl hK T
      obtain ⟨oa, oc, rfl, -, -⟩ := form_of HM2.out.list
      have hnews := World.news_of_block (cs := #[.int .i64 (i : Int)]) (t := 3) (fr := (0, 0)) (heap_alloc_new (W.setCell ⟨w.heap.size + 1, 0, none⟩ (.slice (some ⟨gl, 0, none⟩) l.length lc)) (.cells #[.int .i64 (i : Int)] 3))
      rw [hle] at hnews
      have HN := Lib.hid hnews
      have hbase : w.heap.size ≤ ((W.setCell ⟨w.heap.size + 1, 0, none⟩ (.slice (some ⟨gl, 0, none⟩) l.length lc)).alloc (.cells #[.int .i64 (i : Int)] 3)).heap.size := by rw [World.size_alloc, hle]; omega
      have HB := Lib.hid hbase
      have HO := Lib.hid (HM2.out.list.alloc (.cells #[.int .i64 (i : Int)] 3))
      clear hnews hbase hle
      gi_wp2_with (gi_at_builtin; refine wpListIn_append_own_at _ rfl _ _ 27 rfl w.heap.size 3 j0 _ 1 8 Tryd.underlying27 hj hy0 hy1 hy2 rfl (by decide) (.slice oa os.length oc) os.length (nums os) rfl HO.out ⟨W.heap.size, 0, none⟩ 1 1 [.int .i64 (i : Int)] rfl rfl HN.out (by simp [Value.oneCell']) (by unfold maxLen; omega) (by omega) HB.out ?_; intro v' w1 hown hgrow hnil hat; have hM3 : Aside (Mid w (w.heap.size + 1) rs v' (os ++ [i]) gl lc l w1) := HM2.out.listed hown hgrow hat; have d1 : w1.cell? ⟨tb, 1, none⟩ = some (.slice (some ⟨nb, 0, none⟩) n cap) := (hM3.out.bel.cell (p := ⟨tb, 1, none⟩) (ltc HC.out.1)).trans HC.out.1; have d2 : w1.cell? ⟨nb, i * 3 + 2, none⟩ = some (.slice ka (kidsOf n U i).length kc) := (hM3.out.bel.cell (p := ⟨nb, i * 3 + 2, none⟩) (ltc HC.out.2)).trans (HR.out.2 ▸ HC.out.2); clear hown hgrow hnil hat)
      refine ⟨trivial, CallsIn.mono (backward_in Fence.wide 2 trivial rfl ka _ kc w1) ?_⟩; rintro e w' ⟨rfl, rfl⟩
      gi_wp2_with fail
      have bK := Boxed.new w1 27 (.slice ka (kidsOf n U i).length kc)
      have hbx := hM3.out.box.lt
      have hgl := hM3.out.left.lt gl rfl
      have hR4 : Rd (w1.alloc (.cells #[.slice ka (kidsOf n U i).length kc] 27)) (.slice ka (kidsOf n U i).length kc) (kidsOf n U i) := (HR.out.1.below hM3.out.bel).below ((Below.refl _ w1).alloc (Nat.le_refl _) _)
      have hkb : ∀ b, (Value.slice ka (kidsOf n U i).length kc).ownBlock = some b → b < w.heap.size := fun b hb => (HH.out.1.kid i hi).lt b (HR.out.2 ▸ hb) |>.2
      obtain ⟨X0, hX1, hX2⟩ : ∃ X0 : List Nat, (∀ b, (Value.slice ka (kidsOf n U i).length kc).ownBlock = some b → b ∈ X0) ∧ ∀ b ∈ X0, b < w.heap.size := by
        cases hv : (Value.slice ka (kidsOf n U i).length kc).ownBlock with
        | none => exact ⟨[], (fun b hb => by cases hb), (fun b hb => by cases hb)⟩
        | some b => exact ⟨[b], (fun b' hb => by cases hb; exact List.mem_singleton.2 rfl), (fun b' hb => by rw [List.mem_singleton.1 hb]; exact hkb b hv)⟩
      have hkl := kidsOf_length n U i
      refine wpIn_rangeFunc_ownG (n := 3) rfl (by decide) (gf := 39) (lb := #[.pointer (some ⟨w1.heap.size, 0, none⟩)]) rfl trivial (enters_of Tryd.func39 (by kernel_rfl) rfl)
        (backward_stops Fence.wide (3 - 1) trivial rfl (by decide) w1.heap.size (w1.heap.size :: X0) (.slice ka (kidsOf n U i).length kc) (kidsOf n U i) (by omega) _ (by simp) (List.mem_cons_self ..) bK.cell hR4 (fun b hb => List.mem_cons_of_mem _ (hX1 b hb)))
        (fun h k => h.trans k) ?kb (Below.refl _ _) (fun _ => rfl)
        (fun pre W' => ∃ gl' lc', Mid w (w.heap.size + 1) rs v' (os ++ [i]) gl' lc' (l ++ pre.map (·.2)) W' ∧ gl' ∉ w1.heap.size :: X0 ∧ w1.heap.size < W'.heap.size)
        (fun _ _ _ => False) ?own (fun _ _ _ _ _ hs _ _ => hs) ?start
        (fun z => { tmps := #[.pointer (some ⟨tb, 0, none⟩), .int .i64 (x : Int), undef, undef, .slice none 0 0, v', .pointer (some ⟨w.heap.size + 1, 0, none⟩), .int .i64 (l.length : Int), .int .i64 (i : Int), undef, .int .i64 (z.2 : Int), .pointer (some ⟨tb, 0, none⟩), .int .i64 (x : Int), .bool true, .bool false, .int .i64 (x : Int), u16, .slice (some ⟨gl, 0, none⟩) (l.length + 1) lc, .int .i64 ((l.length : Int) + 1), .bool true, .slice (some ⟨gl, 0, none⟩) (l.length + 1) lc, .int .i64 ((l.length : Int) + 1), .int .i64 (l.length : Int), .slice (some ⟨gl, 0, none⟩) (l.length + 1) lc, .int .i64 (l.length : Int), .pointer (some ⟨gl, l.length, none⟩), .int .i64 (i : Int), .slice (some ⟨gl, 0, none⟩) (l.length + 1) lc, .int .i64 (l.length : Int), .slice (some ⟨gl, 0, none⟩) l.length lc, .slice oa os.length oc, .int .i64 (i : Int), .slice (some ⟨W.heap.size, 0, none⟩) 1 1, v', .pointer (some ⟨tb, 0, none⟩), .pointer (some ⟨tb, 0, none⟩), .pointer (some ⟨tb, 1, none⟩), .slice (some ⟨nb, 0, none⟩) n cap, .int .i64 (i : Int), .pointer (some ⟨nb, i * 3, none⟩), .pointer (some ⟨nb, i * 3 + 2, none⟩), .slice ka (kidsOf n U i).length kc, .func (.func 39) #[] #[.pointer (some ⟨w1.heap.size, 0, none⟩)], .int .i64 (z.1 : Int), .int .i64 (z.2 : Int), undef, undef, undef, undef, undef], defers := [] }) ?assign ?body ?done ?stop
      case kb =>
        intro W' k o o' hk ho hc1 hc2 b hb
        rw [World.size_alloc] at hk
        refine World.putObj_heap_other fun e => ?_
        subst e
        rcases List.mem_cons.1 hb with e | hb
        · omega
        · have := hX2 _ hb; omega
      case own =>
        rintro pre A A' row ⟨gl', lc', hMi, h1, h2⟩ hg hr
        refine ⟨gl', lc', hMi.turn (C := (w1.alloc (.cells #[.slice ka (kidsOf n U i).length kc] 27)).heap.size) (fun r hr' => ?_) ?_ hg hr, h1, Nat.lt_of_lt_of_le h2 hg.size⟩
        · have := (Array.getElem?_eq_some_iff.1 (hM3.out.marks r hr').2).1
          simp; omega
        · have := hM3.out.bel.size
          simp; omega
      case start =>
        refine ⟨gl, lc, by simpa using hM3.out.alloc _, ?_, by simp⟩
        intro hm
        rcases List.mem_cons.1 hm with e | hm
        · omega
        · have := hX2 _ hm; omega
      case assign =>
        intro y z W' K' hK'
        gi_wp2
        exact hK'
      case body =>
        rintro y pre z W' ⟨gl', lc', hMi, h1, h2⟩ hlen
        have hc' := hMi.box.cell
        have hf' := hMi.box.frozen
        have hkz : (l ++ pre.map (·.2)).length + 1 ≤ 1000000 := by
          rw [List.length_append, List.length_map]
          omega
        generalize hL : l ++ pre.map (·.2) = L at *
        have HN2 := Lib.hid (World.news_of_block (cs := #[.int .i64 (z.2 : Int)]) (t := 3) (fr := (0, 0)) (heap_alloc_new W' (.cells #[.int .i64 (z.2 : Int)] 3)))
        have hbs := hMi.bel.size
        have HB2 : Hid (w.heap.size ≤ (W'.alloc (.cells #[.int .i64 (z.2 : Int)] 3)).heap.size) := by
          show _ ≤ _
          rw [World.size_alloc]; omega
        have HO2 := Lib.hid (hMi.left.alloc (.cells #[.int .i64 (z.2 : Int)] 3))
        have HMi : Aside (Mid w (w.heap.size + 1) rs v' (os ++ [i]) gl' lc' L W' ∧ L = l ++ pre.map (·.2) ∧ gl' ∉ w1.heap.size :: X0 ∧ w1.heap.size < W'.heap.size) := ⟨hMi, hL.symm, h1, h2⟩
        have hgx : Aside (gl' ∉ w1.heap.size :: X0) := h1
        clear hMi hL h1 HN HB HO hR4 hX1 bK hc hf hci hlc d1 d2 hkb hgl
        gi_wp2_with (gi_at_builtin; refine wpListIn_append_own_at _ rfl _ _ 27 rfl w.heap.size 3 j0 _ 1 8 Tryd.underlying27 hj hy0 hy1 hy2 rfl (by decide) (.slice (some ⟨gl', 0, none⟩) L.length lc') L.length (nums L) rfl HO2.out ⟨W'.heap.size, 0, none⟩ 1 1 [.int .i64 (z.2 : Int)] rfl rfl HN2.out (by simp [Value.oneCell']) (by unfold maxLen; omega) (by omega) HB2.out ?_; intro q w2 hown hgrow hnil hat; obtain ⟨g2, c2, rfl⟩ := ownsRow_succ hown; have hP := HMi.out.1.pushed hown hgrow hat; have hc2 := hP.1.cell; have hf2 := hP.1.frozen; have HP : Aside (Mid w (w.heap.size + 1) rs v' (os ++ [i]) g2 c2 (L ++ [z.2]) (w2.setCell ⟨w.heap.size + 1, 0, none⟩ (.slice (some ⟨g2, 0, none⟩) (L.length + 1) c2))) := hP.2; have HG : Aside ((W'.alloc (.cells #[.int .i64 (z.2 : Int)] 3)).grownBy w2 (some gl') ∧ (some g2 = some gl' ∨ some g2 = some (W'.alloc (.cells #[.int .i64 (z.2 : Int)] 3)).heap.size)) := ⟨hgrow, hat⟩; clear hown hgrow hnil hat hP)
        have hX3 : ∀ b ∈ w1.heap.size :: X0, b < W'.heap.size ∧ b ≠ gl' ∧ b ≠ w.heap.size + 1 := fun b hb => by
          refine ⟨?_, fun e => HMi.out.2.2.1 (by rw [← e]; exact hb), ?_⟩
          · rcases List.mem_cons.1 hb with e | hb
            · omega
            · have := hX2 b hb; omega
          · rcases List.mem_cons.1 hb with e | hb
            · omega
            · have := hX2 b hb; omega
        have hgs := HG.out.1.size
        rw [World.size_alloc] at hgs
        have hg2 : g2 ∉ w1.heap.size :: X0 := fun hm => by
          rcases HG.out.2 with e | e
          · rw [Option.some.inj e] at hm; exact HMi.out.2.2.1 hm
          · have e := Option.some.inj e
            rw [World.size_alloc] at e
            have := (hX3 g2 hm).1
            omega
        have hfin : Mid w (w.heap.size + 1) rs v' (os ++ [i]) g2 c2 (l ++ (pre ++ [z]).map (·.2)) (w2.setCell ⟨w.heap.size + 1, 0, none⟩ (.slice (some ⟨g2, 0, none⟩) (L.length + 1) c2)) := by
          have := HP.out
          rw [HMi.out.2.1] at this ⊢
          rw [List.map_append, ← List.append_assoc]
          exact this
        exact ⟨(HMi.out.1.keeps HG.out.1 _).from _, Mid.stays HG.out.1 _ hX3, g2, ⟨c2, hfin⟩, ⟨fun e => hg2 (by rw [e]; exact List.mem_cons_self ..), fun e => hg2 (List.mem_cons_of_mem _ e)⟩, by simp [World.setCell]; omega⟩
      case done =>
        rintro D ys W' hD rfl ⟨gl', lc', hMi, -, -⟩ hD2
        obtain ⟨hsum, hlt, hnum, hnd, hl, hK⟩ := HS.out
        have hwe := walk_eq hK hi
        have hrsD : ∀ r ∈ rs, r < D := fun r hr => by
          have := (Array.getElem?_eq_some_iff.1 (hM3.out.marks r hr).2).1
          rw [World.size_alloc] at hD
          omega
        rw [List.flatMap_cons, hwe, List.cons_append] at hsum hnum
        rw [← List.flatMap_append] at hsum hnum
        refine (show ∃ n', n' < g ∧ WInv w tb x n (kidsOf n U) n' _ _ from ⟨((kidsOf n U i ++ rest).flatMap (walk n (kidsOf n U))).length, ?_, v', D :: rs, _, _, _, _, _, _, _, _, _, _, _, _, _, _, _, _, _, _, _, _, _, _, _, _, _, _, _, _, _, rfl, kidsOf n U i ++ rest, os ++ [i], gl', lc', ?_, ?_, rfl, List.nodup_cons.2 ⟨fun hm => by have := hrsD D hm; omega, hnd⟩, ?_⟩)
        · rw [← hnum]; simp
        · rw [List.append_assoc]; exact hsum
        · intro y hy
          rcases List.mem_append.1 hy with hy | hy
          · exact (hK i y hi hy).2
          · exact hlt y (List.mem_cons_of_mem _ hy)
        · have e : l ++ (dn (kidsOf n U i) 0).map (·.2) = (kidsOf n U i ++ rest).reverse := by rw [dn_all, hl, List.reverse_append]
          rw [← e]
          exact ⟨hMi.box, hMi.left, hMi.list, hMi.far, hMi.out, hMi.bel, fun r hr => by
            rcases List.mem_cons.1 hr with rfl | hr
            · refine ⟨?_, hD2⟩
              have := hM3.out.bel.size
              rw [World.size_alloc] at hD
              omega
            · exact hMi.marks r hr⟩
      case stop =>
        rintro D c pre W' _ _ h _
        exact h.elim
end Go.Proofs.YtegbaocpacbljaaDoor.arenaI
