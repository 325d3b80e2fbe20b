/- Kids of the document's tree. -/
import Derived.Test.YtegbaocpacbljaaDoorRfTr
import Derived.Test.YtegbaocpacbljaaDoorArWMath
namespace Go.Proofs.YtegbaocpacbljaaDoor.rf
open Go.RowKit Go.Proofs.YtegbaocpacbljaaDoor.arena
variable {w : World} {B mb : Nat} {most : Int} {vv uv : Value} {n : Nat} {V U : Nat → Int}

theorem own_slice {w : World} {B g n cap : Nat} {xs : List Value} {m : Nat} (h : w.ownsRow B 3 1 (.slice (some ⟨g, 0, none⟩) n cap) n xs) (e : n = m) : w.ownsRow B 3 1 (.slice (some ⟨g, 0, none⟩) m cap) m xs := e ▸ h

set_option maxRecDepth 100000 in
set_option maxHeartbeats 2000000 in
theorem kids_yes (h : Rt w B mb most vv uv n V U) (x : Nat) (hx : x < n) (hn : n ≤ 100000) :
    Calls Tryd.prog 23 #[.pointer (some ⟨mb, 0, none⟩), .int .i64 (x : Int)] w fun e w' => ∃ g c, e = .returned (.slice (some ⟨g, 0, none⟩) (kidsOf n U x).length c) ∧ Aside (w'.ownsRow w.heap.size 3 1 (.slice (some ⟨g, 0, none⟩) (kidsOf n U x).length c) (kidsOf n U x).length (nums (kidsOf n U x)) ∧ Below w.heap.size w w') := by
  obtain ⟨j0, hj, hy0, hy1, hy2⟩ := info_parts infoInt
  have HH : Aside (Rt w B mb most vv uv n V U) := h
  obtain ⟨va, vc, rfl, -, -⟩ := form_of h.vrow
  obtain ⟨g, cap, rfl, -, -⟩ := row_get h.urow hx
  clear h
  go_enter Tryd.func23, Tryd.ntmps23
  go_wp2_with fail
  go_loopg [5, 6] (n - 1) (fun q s t wr => ∃ (i g1 c1 : Nat), t = .int .i64 i ∧ 1 ≤ i ∧ i ≤ n ∧ s = .slice (some ⟨g1, 0, none⟩) (kidsOf i U x).length c1 ∧ Hid (i + q = n) ∧ Aside (wr.ownsRow w.heap.size 3 1 (.slice (some ⟨g1, 0, none⟩) (kidsOf i U x).length c1) (kidsOf i U x).length (nums (kidsOf i U x)) ∧ Below w.heap.size w wr))
  case atStart =>
    have e0 : kidsOf 1 U x = [] := by rw [kidsOf_succ, kidsOf_zero, if_neg (by omega)]; rfl
    refine ⟨1, w.heap.size, 0, rfl, Nat.le_refl _, by omega, by rw [e0]; rfl, ?_, ?_, (Below.refl _ w).alloc (Nat.le_refl _) _⟩
    rotate_left
    · rw [e0]; exact World.ownsRow_lit w #[] 0 (Nat.le_refl _) (by unfold maxLen; omega) rfl
    · show 1 + (n - 1) = n
      omega
  case round =>
    obtain ⟨i, g1, c1, rfl, hi1, hi2, rfl, hq, hO⟩ := hrel
    have hb := hO.out.2
    have k0 := (hb.cell (p := ⟨mb, 0, none⟩) HH.out.lt).trans HH.out.c0
    have k1 := (hb.cell (p := ⟨mb, 1, none⟩) HH.out.lt).trans HH.out.c1
    by_cases hlt : i < n
    · obtain ⟨q, hq2⟩ : ∃ q, Hid (gk = q + 1) := ⟨gk - 1, by have := hq.out; show gk = _; omega⟩
      have Hs := has_yes (HH.out.below hb) x hx
      obtain ⟨g', cap', e1, k2, -⟩ := row_get HH.out.urow hlt
      simp only [Value.slice.injEq, Option.some.injEq, Addr.mk.injEq, and_true, true_and] at e1
      obtain ⟨rfl, rfl⟩ := e1
      have k3 := (hb.cell (p := ⟨g, i, none⟩) (ltc k2)).trans k2
      have hsucc := kidsOf_succ i U x
      have hbs := hb.size
      have hkl := kidsOf_length i U x
      have y0 : (0 : Int) ≤ (i : Int) := by omega
      have y1 : (i : Int) < (n : Int) := by omega
      have y2 : (0 : Int) ≤ (x : Int) := by omega
      clear k2 hb
      by_cases hu : U i = (x : Int)
      · rw [if_pos ⟨by omega, hu⟩] at hsucc
        rw [hu] at k3
        have HS := Lib.hid hsucc
        have HN := Lib.hid (World.news_of_block (cs := #[.int .i64 (i : Int)]) (t := 3) (fr := (0, 0)) (heap_alloc_new wr (.cells #[.int .i64 (i : Int)] 3)))
        have HW : Hid ((wr.alloc (.cells #[.int .i64 (i : Int)] 3)).ownsRow w.heap.size 3 1 (.slice (some ⟨g1, 0, none⟩) (kidsOf i U x).length c1) (kidsOf i U x).length (nums (kidsOf i U x))) := hO.out.1.alloc _
        clear hsucc hu
        go_wp2_with fail
        refine Hs.mono ?_; rintro e w' ⟨rfl, rfl⟩
        go_wp2_with (at_builtin; refine wpList_append_lies _ rfl _ _ 27 rfl w.heap.size 3 j0 _ 1 8 Tryd.underlying27 hj hy0 hy1 hy2 rfl (by decide) (.slice (some ⟨g1, 0, none⟩) (kidsOf i U x).length c1) (kidsOf i U x).length (nums (kidsOf i U x)) rfl HW.out ⟨wr.heap.size, 0, none⟩ 1 1 [.int .i64 (i : Int)] rfl rfl HN.out (by simp [Value.oneCell']) (by decide) (by unfold maxLen; omega) (by omega) (by simp; omega) (wr.heap.size + 1) (by simp) ?_; intro g2 c2 w2 hown hgrow hat hl2; have hO2 : Aside (w2.ownsRow w.heap.size 3 1 (.slice (some ⟨g2, 0, none⟩) ((kidsOf i U x).length + 1) c2) ((kidsOf i U x).length + 1) (nums (kidsOf i U x) ++ [.int .i64 (i : Int)]) ∧ Below w.heap.size w w2) := ⟨hown, (hO.out.2.alloc hO.out.2.size _).grown hgrow (by simp; omega) (fun k e => (hO.out.1.lt k e).1)⟩; clear hown hgrow hat hl2)
        go_roundg q
        case measure => have := hq2.out; omega
        case rel =>
          have e3 : (kidsOf (i + 1) U x).length = (kidsOf i U x).length + 1 := by rw [HS.out, List.length_append]; rfl
          refine ⟨i + 1, g2, c2, by go_num, by omega, by omega, by rw [e3], by have := hq.out; have := hq2.out; show _ = _; omega, ?_, hO2.out.2⟩
          rw [e3]
          have := hO2.out.1
          rw [HS.out, nums_append]
          exact this
      · rw [if_neg (fun h => hu h.2), List.append_nil] at hsucc
        have HS := Lib.hid hsucc
        clear hsucc
        go_wp2_with fail
        refine Hs.mono ?_; rintro e w' ⟨rfl, rfl⟩
        go_wp2_with fail
        go_roundg q
        case measure => have := hq2.out; omega
        case rel => exact ⟨i + 1, g1, c1, by go_num, by omega, by omega, by rw [HS.out], by have := hq.out; have := hq2.out; show _ = _; omega, by rw [HS.out]; exact hO.out⟩
    · obtain rfl : i = n := by omega
      go_wp2_with fail
      go_ret
      exact ⟨g1, c1, rfl, hO.out⟩

theorem kids_no (h : Rt w B mb most vv uv n V U) (x : Int) (hx : x < 0 ∨ (n : Int) ≤ x) (hn : n ≤ 100000) :
    Calls Tryd.prog 23 #[.pointer (some ⟨mb, 0, none⟩), .int .i64 x] w fun e w' => ∃ g, e = .returned (.slice (some ⟨g, 0, none⟩) 0 0) ∧ Below w.heap.size w w' := by
  have HH : Aside (Rt w B mb most vv uv n V U) := h
  obtain ⟨va, vc, rfl, -, -⟩ := form_of h.vrow
  clear h
  go_enter Tryd.func23, Tryd.ntmps23
  go_wp2_with fail
  go_loopg [5, 6] (n - 1) (fun q s t wr => ∃ i : Nat, t = .int .i64 i ∧ s = .slice (some ⟨w.heap.size, 0, none⟩) 0 0 ∧ 1 ≤ i ∧ (n < i → i = 1) ∧ Hid (n ≤ i + q) ∧ Below w.heap.size w wr)
  case atStart => exact ⟨1, rfl, rfl, Nat.le_refl _, fun _ => rfl, (by show n ≤ 1 + (n - 1); omega), (Below.refl _ w).alloc (Nat.le_refl _) _⟩
  case round =>
    obtain ⟨i, rfl, rfl, hi1, hi2, hq, hb⟩ := hrel
    have k0 := (hb.cell (p := ⟨mb, 0, none⟩) HH.out.lt).trans HH.out.c0
    by_cases hlt : i < n
    · have Hs := has_no (HH.out.below hb) x hx
      obtain ⟨q, hq2⟩ : ∃ q, Hid (gk = q + 1) := ⟨gk - 1, by have : n ≤ i + gk := hq; show gk = _; omega⟩
      have y1 : (i : Int) < (n : Int) := by omega
      clear hi2
      go_wp2_with fail
      refine Hs.mono ?_; rintro e w' ⟨rfl, rfl⟩
      go_wp2_with fail
      go_roundg q
      case measure => have := hq2.out; omega
      case rel => exact ⟨i + 1, by go_num, rfl, by omega, fun h => by omega, by have : n ≤ i + gk := hq; have := hq2.out; show n ≤ _; omega, hb⟩
    · have y1 : ¬ (i : Int) < (n : Int) := by omega
      clear hi2
      go_wp2_with fail
      go_ret
      exact ⟨⟨_, rfl⟩, hb⟩
end Go.Proofs.YtegbaocpacbljaaDoor.rf
