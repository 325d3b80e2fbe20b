/- held.behind: the places behind those at which a character stands that will do, written over the list. -/
import Derived.Test.YtoilalffhmjhdaaGreatDoorSbSmall
import Derived.OwnWalk
import Derived.Maps.AppendAt
set_option linter.unusedSimpArgs false
set_option linter.unusedVariables false
namespace Go.Proofs.YtoilalffhmjhdaaGreatDoor.subst
open Go.RowKit Go.Proofs.YtoilalffhmjhdaaGreatDoor.errs Go.Proofs.YtoilalffhmjhdaaGreatDoor.rows

theorem cell_of_heap {w : World} {g k : Nat} {cur : Array Value} {t : TypeId} {v : Value} (h : w.heap[g]? = some (.cells cur t (0, 0))) (hk : cur[k]? = some v) : w.cell? ⟨g, k, none⟩ = some v := by
  simp [World.cell?, h, hk]
/-- A number more, where there is room: it is written there. -/
theorem push_here {ops : Array Oper} {rest : List Oper} {o : Oper} {a : Act} {Q : Exit → Act → World → Prop} (hgd : o.guard = none) (s x : Operand)
    (ho : o.op = .call { callee := .builtin .append, args := #[s, x], argTypes := #[68, 68] }) (W : World) (g n cap : Nat) (cur : Array Value) (hg : W.heap[g]? = some (.cells cur 3 (0, 0))) (hc : cur.size = cap) (hn : n < cap) (z : Int)
    (hs : a.eval s = .slice (some ⟨g, 0, none⟩) n cap) (hx : a.eval x = .slice (some ⟨W.heap.size, 0, none⟩) 1 1)
    (h : ∀ w', w'.heap[g]? = some (.cells (cur.setIfInBounds n (.int .i64 z)) 3 (0, 0)) → W.grownBy w' (some g) → wpList Tryz.prog ops Q rest (a.put o.dst (.slice (some ⟨g, 0, none⟩) (n + 1) cap)) w') :
    wpList Tryz.prog ops Q (o :: rest) a (W.alloc (.cells #[.int .i64 z] 3)) := by
  obtain ⟨i0, hi, hz0, hz1, hz2⟩ := info_parts infoInt
  have hlt : g < W.heap.size := (Array.getElem?_eq_some_iff.1 hg).1
  have hg2 : (W.alloc (.cells #[.int .i64 z] 3)).heap[g]? = some (.cells cur 3 (0, 0)) := (Below.heap_alloc W _ g hlt).trans hg
  refine wpList_plain hgd fun K hK => ?_
  have hr := run_append_room (P := Tryz.prog) (W.alloc (.cells #[.int .i64 z] 3)) 68 o.type 3 i0 Tryz.underlying68 hi g n cap cur hg2 ⟨W.heap.size, 0, none⟩ 1 1 [.int .i64 z] (by rw [hz1]; rfl)
    (fun j u hj => by
      obtain rfl : j = 0 := by
        have := (List.getElem?_eq_some_iff.1 hj).1
        simpa using this
      rw [show (Addr.add ⟨W.heap.size, 0, none⟩ 0 : Addr) = ⟨W.heap.size, 0, none⟩ by simp [Addr.add], World.cell?_alloc_at _ _ _ _ rfl]
      simpa using hj)
    (fun u hu => by simp at hu; subst hu; rfl) (by omega) (by rw [hz1]; simp; omega)
  unfold Oper.wp execOp
  simp only [ho, resolve, invoke, builtin, Sem.run_bind, Sem.run_pure, Result.andThen_ok, List.map_toArray, List.map_cons, List.map_nil, hs, hx, hr]
  refine hK _ _ (h _ ?_ ?_)
  · have e : (cur.toList.take (n * i0.size) ++ [Value.int .i64 z] ++ cur.toList.drop (n * i0.size + [Value.int .i64 z].length)).toArray = cur.setIfInBounds n (.int .i64 z) := by
      apply Array.ext'
      have hcl : cur.toList.length = cap := by rw [Array.length_toList]; exact hc
      rw [hz1, Nat.mul_one, Array.toList_setIfInBounds, List.set_eq_take_append_cons_drop, if_pos (by rw [hcl]; exact hn), List.append_assoc]
      rfl
    rw [e]
    exact setRow_heap (W.alloc (.cells #[.int .i64 z] 3)) g cur _ 3 _ hg2
  · have hA := World.grownBy_alloc W (.cells #[.int .i64 z] 3) (some g)
    exact ⟨rfl, rfl, rfl, by simp [World.setRow], fun k hk hne => by
      rw [setRow_other _ g k _ (fun e => hne (by rw [e]))]
      exact hA.block k hk hne⟩

/-- In the middle of it: so many have been looked at. -/
def InPl (w : World) (g cap : Nat) (f : Int → Bool) (X : List Int) (L : List Nat) (i : Nat) : Prop :=
  ∃ cur, w.heap[g]? = some (.cells cur 3 (0, 0)) ∧ cur.size = cap ∧ cur.toList.take (behindL f X (L.take i)).length = nums (behindL f X (L.take i)) ∧ ∀ j, i ≤ j → j < L.length → cur[j]? = some (.int .i64 ((L.getD j 0 : Nat) : Int))
theorem take_one (L : List Nat) (i : Nat) (h : i < L.length) : L.take (i + 1) = L.take i ++ [L.getD i 0] := by
  rw [List.take_succ_eq_append_getElem h, List.getD_eq_getElem?_getD, List.getElem?_eq_getElem h]; rfl
theorem InPl.cell {w : World} {g cap : Nat} {f : Int → Bool} {X : List Int} {L : List Nat} {i : Nat} (h : InPl w g cap f X L i) (hi : i < L.length) : w.cell? ⟨g, i, none⟩ = some (.int .i64 ((L.getD i 0 : Nat) : Int)) := by
  obtain ⟨cur, h1, h2, h3, h4⟩ := h
  exact cell_of_heap h1 (h4 i (Nat.le_refl _) hi)
theorem InPl.skip {w : World} {g cap : Nat} {f : Int → Bool} {X : List Int} {L : List Nat} {i : Nat} (h : InPl w g cap f X L i) (hi : i < L.length) (hn : behindOne f X (L.getD i 0) = none) : InPl w g cap f X L (i + 1) := by
  obtain ⟨cur, h1, h2, h3, h4⟩ := h
  refine ⟨cur, h1, h2, ?_, fun j hj hl => h4 j (by omega) hl⟩
  rw [take_one L i hi, behind_snoc, hn]
  simpa using h3
theorem InPl.le {w : World} {g cap : Nat} {f : Int → Bool} {X : List Int} {L : List Nat} {i : Nat} (h : InPl w g cap f X L i) : (behindL f X (L.take i)).length ≤ i := by
  have := behind_len f X (L.take i)
  rw [List.length_take] at this
  omega
theorem InPl.push {w w' : World} {g cap : Nat} {f : Int → Bool} {X : List Int} {L : List Nat} {i z : Nat} (hi : i < L.length) (hc : L.length ≤ cap) (hn : behindOne f X (L.getD i 0) = some z) {cur : Array Value}
    (h : w.heap[g]? = some (.cells cur 3 (0, 0)) ∧ cur.size = cap ∧ cur.toList.take (behindL f X (L.take i)).length = nums (behindL f X (L.take i)) ∧ ∀ j, i ≤ j → j < L.length → cur[j]? = some (.int .i64 ((L.getD j 0 : Nat) : Int)))
    (hw : w'.heap[g]? = some (.cells (cur.setIfInBounds (behindL f X (L.take i)).length (.int .i64 (z : Int))) 3 (0, 0))) : InPl w' g cap f X L (i + 1) := by
  obtain ⟨h1, h2, h3, h4⟩ := h
  have hle : (behindL f X (L.take i)).length ≤ i := by
    have := behind_len f X (L.take i)
    rw [List.length_take] at this
    omega
  refine ⟨_, hw, by rw [Array.size_setIfInBounds]; exact h2, ?_, fun j hj hl => ?_⟩
  · rw [take_one L i hi, behind_snoc, hn]
    have hlen : (behindL f X (L.take i)).length < cur.toList.length := by have := Array.length_toList (xs := cur); omega
    rw [Array.toList_setIfInBounds, Option.toList_some, List.length_append, List.length_singleton, List.take_succ_eq_append_getElem (by rw [List.length_set]; exact hlen), List.getElem_set_self, List.take_set_of_le (Nat.le_refl _), h3]
    simp [nums]
  · rw [Array.getElem?_setIfInBounds, if_neg (by omega)]
    exact h4 j (by omega) hl

/-- What behind answers: the list lies where it lay. -/
def BehindOut (B : Nat) (v : Value) (L : List Nat) (w : World) (e : Ending) (w' : World) : Prop := ∃ v', e = .returned v' ∧ Nats w' B v' L ∧ w.grownBy w' v.ownBlock ∧ (v'.ownBlock = v.ownBlock)

set_option maxRecDepth 100000 in
set_option maxHeartbeats 2000000 in
theorem behind_any (X : List Int) (rb rcap : Nat) (alike : Bool) (L : List Nat) (v : Value) (B k : Nat) (caps : Array Value) (f : Int → Bool) (w : World) (eg : ∀ args w, (callFunc k args).run Tryz.prog w = .ok (.enter k args) w)
    (hX : X.length ≤ rcap ∧ rcap ≤ 9223372036854775807 ∧ ∀ j, j < X.length → w.cell? ⟨rb, j, none⟩ = some (.int .i32 (X.getD j 0))) (hne : v.ownBlock ≠ some rb) (hv : Nats w B v L) (hB : B ≤ w.heap.size) (hL : L.length ≤ 1000001) (hXl : X.length ≤ 1000000) (hgood : ∀ a ∈ L, a ≤ 1000000)
    (hf : ∀ W, w.grownBy W v.ownBlock → ∀ x, Calls Tryz.prog k (#[.int .i32 x] ++ caps) W fun e w' => e = .returned (.bool (f x)) ∧ W = w') :
    Calls Tryz.prog 54 #[.agg #[.slice (some ⟨rb, 0, none⟩) X.length rcap, .bool alike], v, .func (.func k) #[] caps] w fun e w' => BehindOut B v (behindL f X L) w e w' := by
  rcases hv.form with ⟨rfl, rfl⟩ | ⟨g, cap, cur, rfl, hBg, hg, hcl, hcm, hcs, htk⟩
  · go_enter Tryz.func54, Tryz.ntmps54
    go_wp2_with fail
    go_loopg [7, 14] 0 (fun _ u t wr => u = .slice none 0 0 ∧ t = .int .i64 0 ∧ w.grownBy wr none)
    case atStart => exact ⟨rfl, rfl, World.grownBy_alloc _ _ _⟩
    case round =>
      obtain ⟨rfl, rfl, hk⟩ := hrel
      go_wp2_with fail
      go_ret
      exact ⟨_, rfl, World.ownsRow_nil _ _ _ _, hk, rfl⟩
  · have hcells : ∀ j, j < L.length → cur[j]? = some (.int .i64 ((L.getD j 0 : Nat) : Int)) := fun j hj => by
      have h1 := nums_get L j hj
      rw [← htk, List.getElem?_take_of_lt hj, Array.getElem?_toList] at h1
      exact h1
    have hgr : g ≠ rb := fun e => hne (by rw [e]; rfl)
    have HF : Aside (∀ W, w.grownBy W (some g) → ∀ x, Calls Tryz.prog k (#[.int .i32 x] ++ caps) W fun e w' => e = .returned (.bool (f x)) ∧ W = w') := hf
    have HX : Aside (∀ W, w.grownBy W (some g) → ∀ j, j < X.length → W.cell? ⟨rb, j, none⟩ = some (.int .i32 (X.getD j 0))) := fun W hW j hj => hW.cell (a := ⟨rb, j, none⟩) (hX.2.2 j hj) (fun e => hgr (by cases e; rfl))
    have hx1 := hX.1
    have hx2 := hX.2.1
    have HG : Aside (∀ a ∈ L, a ≤ 1000000) := hgood
    have hgl : g < w.heap.size := (Array.getElem?_eq_some_iff.1 hg).1
    have ST : Aside (InPl (w.alloc (.cells #[.slice (some ⟨rb, 0, none⟩) X.length rcap, .bool alike] 66)) g cap f X L 0 ∧ w.grownBy (w.alloc (.cells #[.slice (some ⟨rb, 0, none⟩) X.length rcap, .bool alike] 66)) (some g)) :=
      ⟨⟨cur, (Below.heap_alloc w _ g hgl).trans hg, hcs, rfl, fun j _ hj => hcells j hj⟩, World.grownBy_alloc _ _ _⟩
    have HB : Aside (∀ W : World, InPl W g cap f X L L.length → Nats W B (.slice (some ⟨g, 0, none⟩) (behindL f X L).length cap) (behindL f X L)) := fun W ⟨cur', h1, h2, h3, _⟩ => by
      rw [List.take_length] at h3
      have hle := behind_len f X L
      exact ⟨by unfold nums; simp, .inr ⟨g, cap, cur', rfl, hBg, h1, by omega, hcm, by rw [h2, Nat.mul_one], by rw [Nat.mul_one]; exact h3⟩⟩
    have hbox : Aside (∀ W : World, (∃ n, w.heap.size + 1 ≤ n ∧ Below n (w.alloc (.cells #[.slice (some ⟨rb, 0, none⟩) X.length rcap, .bool alike] 66)) W) → True) := fun _ _ => trivial
    have capm : cap ≤ 9223372036854775807 := by unfold maxLen at hcm; omega
    obtain ⟨n, hn⟩ : ∃ n, Hid (L.length = n) := ⟨_, rfl⟩
    obtain ⟨xn, hxn⟩ : ∃ xn, Hid (X.length = xn) := ⟨_, rfl⟩
    rw [hn.out] at hcl hL hv hne ⊢
    rw [hxn.out] at hx1 hXl ST ⊢
    have ST0 : Aside (∀ W : World, (w.alloc (.cells #[.slice (some ⟨rb, 0, none⟩) xn rcap, .bool alike] 66)).grownBy W (some g) → W.cell? ⟨w.heap.size, 0, none⟩ = some (.slice (some ⟨rb, 0, none⟩) xn rcap) ∧ w.grownBy W (some g)) := fun W hW => by
      refine ⟨hW.cell (a := ⟨w.heap.size, 0, none⟩) (by rw [World.cell?_alloc_at _ _ _ _ rfl]; rfl) (fun e => by have e' : w.heap.size = g := Option.some.inj e; omega), ?_⟩
      exact ⟨hW.os, hW.tape, hW.output, Nat.le_trans (by simp) hW.size, fun k hk hne => (hW.block k (by simp; omega) hne).trans (Below.heap_alloc w _ k hk)⟩
    clear hX hf hgood hg hcells htk hcs hbox
    go_enter Tryz.func54, Tryz.ntmps54
    go_wp2_with fail
    go_loopg [7, 14] n (fun gg u t wr => ∃ i m : Nat, u = .slice (some ⟨g, 0, none⟩) m cap ∧ t = .int .i64 i ∧ gg + i = n ∧ Hid ((behindL f X (L.take i)).length = m) ∧ m ≤ i ∧ Aside (InPl wr g cap f X L i ∧ (w.alloc (.cells #[.slice (some ⟨rb, 0, none⟩) xn rcap, .bool alike] 66)).grownBy wr (some g)))
    case atStart => exact ⟨0, 0, rfl, rfl, rfl, rfl, Nat.le_refl _, ST.out.1, World.grownBy.refl _ _⟩
    case round =>
      obtain ⟨i, m, rfl, rfl, hgg, hm, hmi, hA⟩ := hrel
      obtain ⟨c0, gb⟩ := ST0.out wr hA.out.2
      by_cases hlt : i < n
      · have hiL : i < L.length := by rw [hn.out]; exact hlt
        have c1 := hA.out.1.cell hiL
        have y0 : (0 : Int) ≤ (i : Int) := by omega
        have y1 : (i : Int) < (n : Int) := by omega
        have hz : L.getD i 0 ≤ 1000000 := HG.out _ (by rw [List.getD_eq_getElem?_getD, List.getElem?_eq_getElem hiL]; exact List.getElem_mem _)
        have SK := Lib.hid (fun h => hA.out.1.skip hiL h)
        have B1 : Hid (∀ z, L.getD i 0 = z → behindOne f X z = if z < xn ∧ f (X.getD z 0) = true then some (z + 1) else none) := fun z _ => by unfold behindOne; rw [hxn.out]
        have GB := Lib.hid gb
        have CE := Lib.hid (HX.out wr gb)
        have CF := Lib.hid (HF.out wr gb)
        generalize hu : L.getD i 0 = z at *
        have HZ := Lib.hid hu
        clear hu gb
        have y2 : (0 : Int) ≤ (z : Int) := by omega
        by_cases hzx : z < xn
        · have y3 : (z : Int) < (xn : Int) := by omega
          have c2 := CE.out z (by rw [hxn.out]; exact hzx)
          have C := CF.out (X.getD z 0)
          have B2 := B1.out z rfl
          generalize hx : X.getD z 0 = x at *
          cases hfx : f x with
          | true =>
            rw [hfx] at C
            rw [if_pos ⟨hzx, hfx⟩] at B2
            have B3 := Lib.hid B2
            have HW : Aside ((w.alloc (.cells #[.slice (some ⟨rb, 0, none⟩) xn rcap, .bool alike] 66)).grownBy wr (some g) ∧ InPl wr g cap f X L i) := ⟨hA.out.2, hA.out.1⟩
            obtain ⟨cur, q1, q2, q3, q4⟩ := hA.out.1
            have QQ := Lib.hid (⟨q1, q2, q3, q4⟩ : _ ∧ _ ∧ _ ∧ _)
            have Q1 := Lib.hid q1
            have Q2 := Lib.hid q2
            clear q1 q2 q3 q4 hA B2 SK B1 CE CF hfx hx
            go_wp2_with (first | (go_at_fn k; refine C.mono ?_; rintro e w' ⟨rfl, rfl⟩) | (at_builtin; refine push_here rfl _ _ rfl wr g m cap cur Q1.out Q2.out (by omega) ((z : Int) + 1) rfl rfl ?_; intro w' r1 r2; have R1 := Lib.hid r1; have R2 := Lib.hid r2; clear r1 r2))
            go_roundg (gk - 1)
            case measure => omega
            case rel =>
              have hp : InPl w' g cap f X L (i + 1) := InPl.push hiL (by rw [hn.out]; exact hcl) (by rw [HZ.out]; exact B3.out) QQ.out (by rw [hm.out]; exact R1.out)
              have hl : (behindL f X (L.take (i + 1))).length = m + 1 := by rw [take_one L i hiL, behind_snoc, HZ.out, B3.out, Option.toList_some, List.length_append, hm.out]; rfl
              exact ⟨i + 1, m + 1, rfl, by go_num, by omega, hl, by omega, hp, HW.out.1.trans R2.out⟩
          | false =>
            rw [hfx] at C
            rw [if_neg (by rw [hfx]; simp)] at B2
            have NX : Aside (InPl wr g cap f X L (i + 1) ∧ (w.alloc (.cells #[.slice (some ⟨rb, 0, none⟩) xn rcap, .bool alike] 66)).grownBy wr (some g)) := ⟨SK.out B2, hA.out.2⟩
            have hl : Hid ((behindL f X (L.take (i + 1))).length = m) := by show _ = _; rw [take_one L i hiL, behind_snoc, HZ.out, B2, Option.toList_none, List.append_nil, hm.out]
            clear hA B2 SK B1 CE CF hfx hx
            go_wp2_with (go_at_fn k; refine C.mono ?_; rintro e w' ⟨rfl, rfl⟩)
            go_roundg (gk - 1)
            case measure => omega
            case rel => exact ⟨i + 1, m, rfl, by go_num, by omega, hl, by omega, NX.out⟩
        · have y3 : ¬ (z : Int) < (xn : Int) := by omega
          have B2 := B1.out z rfl
          rw [if_neg (fun h => hzx h.1)] at B2
          have NX : Aside (InPl wr g cap f X L (i + 1) ∧ (w.alloc (.cells #[.slice (some ⟨rb, 0, none⟩) xn rcap, .bool alike] 66)).grownBy wr (some g)) := ⟨SK.out B2, hA.out.2⟩
          have hl : Hid ((behindL f X (L.take (i + 1))).length = m) := by show _ = _; rw [take_one L i hiL, behind_snoc, HZ.out, B2, Option.toList_none, List.append_nil, hm.out]
          clear hA B2 SK B1 CE CF hzx
          go_wp2_with fail
          go_roundg (gk - 1)
          case measure => omega
          case rel => exact ⟨i + 1, m, rfl, by go_num, by omega, hl, by omega, NX.out⟩
      · obtain rfl : i = n := by omega
        have y1 : ¬ (i : Int) < (i : Int) := by omega
        have hl : Hid (m = (behindL f X L).length) := by show m = _; rw [← hm.out, ← hn.out, List.take_length]
        have V : Aside (Nats wr B (.slice (some ⟨g, 0, none⟩) (behindL f X L).length cap) (behindL f X L)) := HB.out wr (by rw [hn.out]; exact hA.out.1)
        have GB := Lib.hid gb
        clear hA gb hm
        go_wp2_with fail
        go_ret
        exact ⟨_, rfl, by rw [hl.out]; exact V.out, GB.out, rfl⟩
end Go.Proofs.YtoilalffhmjhdaaGreatDoor.subst
