/- held.seen, held.pattern: the places that a pattern can end at. -/
import Derived.Test.YtoilalffhmjhdaaGreatDoorSbOnward
import Derived.Test.YtoilalffhmjhdaaGreatDoorSbLang
import Derived.Test.YtoilalffhmjhdaaGreatDoorChars
set_option linter.unusedSimpArgs false
set_option linter.unusedVariables false
namespace Go.Proofs.YtoilalffhmjhdaaGreatDoor.subst
open Go.RowKit Go.Proofs.YtoilalffhmjhdaaGreatDoor.errs Go.Proofs.YtoilalffhmjhdaaGreatDoor.rows Go.Proofs.YtoilalffhmjhdaaGreatDoor.utf Go.Proofs.YtoilalffhmjhdaaGreatDoor.chars Go.Proofs.YtoilalffhmjhdaaGreatDoor.glref Go.Proofs.YtoilalffhmjhdaaGreatDoor.lower Go.Proofs.YtoilalffhmjhdaaGreatDoor.gmath

/-- A text as it is looked at. -/
def fs (fold : Bool) (s : ByteArray) : ByteArray := if fold then lo s else s
theorem fs_size (fold : Bool) (s : ByteArray) : (fs fold s).size = s.size := by unfold fs; split; exact lo_size s; rfl
theorem all_fs (fold : Bool) (s : ByteArray) : all (fs fold s) = (all s).map (fo fold) := by
  unfold fs
  cases fold with
  | true => rw [if_pos rfl, all_lo]; rfl
  | false => rw [if_neg (by decide), fo_false]
theorem seen_any (r : Value) (fold : Bool) (s : ByteArray) (hs : s.size ≤ 1000000) (w : World) :
    Calls Tryz.prog 52 #[.agg #[r, .bool fold], .string s] w fun e w' => e = .returned (.string (fs fold s)) ∧ Below w.heap.size w w' := by
  cases fold with
  | true =>
    have C := fun w => lower_any s hs w
    have e : fs true s = lo s := rfl
    rw [e]
    generalize lo s = s' at *
    go_enter Tryz.func52, Tryz.ntmps52
    go_wp2_with fail
    refine (C _).mono ?_; rintro e w1 ⟨rfl, hb⟩
    have K : Aside (Below w.heap.size w w1) := ((Below.refl _ _).alloc (Nat.le_refl _) _).trans (hb.mono (by simp))
    clear hb
    go_wp2_with fail
    go_ret
    exact ⟨rfl, K.out⟩
  | false =>
    have e : fs false s = s := rfl
    rw [e]
    go_enter Tryz.func52, Tryz.ntmps52
    go_wp2_with fail
    go_ret
    exact ⟨rfl, (Below.refl _ _).alloc (Nat.le_refl _) _⟩

theorem pat_snoc (X P : List Int) (c : Int) (L : List Nat) : patL X (P ++ [c]) L = stepL X c (patL X P L) := by unfold patL; rw [List.foldl_append]; rfl

/-- The text's characters in memory. -/
def Chs (w : World) (rb rcap : Nat) (X : List Int) : Prop := X.length ≤ rcap ∧ rcap ≤ 9223372036854775807 ∧ rb < w.heap.size ∧ ∀ j, j < X.length → w.cell? ⟨rb, j, none⟩ = some (.int .i32 (X.getD j 0))
theorem Chs.below {w w' : World} {rb rcap : Nat} {X : List Int} (h : Chs w rb rcap X) (hb : Keeps w w') : Chs w' rb rcap X :=
  ⟨h.1, h.2.1, Nat.lt_of_lt_of_le h.2.2.1 hb.size, fun j hj => (hb.cell (p := ⟨rb, j, none⟩) h.2.2.1).trans (h.2.2.2 j hj)⟩

/-- A step in the midst of a pattern: what it keeps. -/
theorem own_not {w : World} {B : Nat} {v : Value} {L : List Nat} (h : Nats w B v L) {k : Nat} {o : Obj} (hk : w.heap[k]? = some o) (ho : ∀ cs, o ≠ .cells cs 3 (0, 0)) : v.ownBlock ≠ some k := fun e => by
  rcases h.form with ⟨rfl, -⟩ | ⟨g, cap, cur, rfl, -, hg, -⟩
  · cases e
  · have e' : g = k := Option.some.inj e
    subst e'
    rw [hg] at hk
    exact ho cur (Option.some.inj hk).symm
theorem Nats.ge {w : World} {B : Nat} {v : Value} {L : List Nat} (h : Nats w B v L) {g : Nat} (hg : v.ownBlock = some g) : B ≤ g := (World.ownsRow.lt h g hg).1

theorem step_any (X : List Int) (rb rcap : Nat) (fold : Bool) (L : List Nat) (v : Value) (B cb : Nat) (c : Int) (w : World) (hC : Chs w rb rcap X) (hr : rb < B) (hv : Nats w B v L) (hB : B ≤ w.heap.size) (hXl : X.length ≤ 1000000) (hg : Good X.length L) (hc : w.heap[cb]? = some (.cells #[.int .i32 c] 21 (0, 0))) :
    (c ≠ 42 → c ≠ 63 → Calls Tryz.prog 54 #[.agg #[.slice (some ⟨rb, 0, none⟩) X.length rcap, .bool fold], v, .func (.func 60) #[] #[.pointer (some ⟨cb, 0, none⟩)]] w fun e w' => StepOut B v (stepL X c L) w e w') ∧
    (c = 63 → Calls Tryz.prog 54 #[.agg #[.slice (some ⟨rb, 0, none⟩) X.length rcap, .bool fold], v, .func (.func 59) #[] #[]] w fun e w' => StepOut B v (stepL X c L) w e w') ∧
    (c = 42 → Calls Tryz.prog 58 #[.agg #[.slice (some ⟨rb, 0, none⟩) X.length rcap, .bool fold], v] w fun e w' => StepOut B v (stepL X c L) w e w') := by
  have hl : L.length ≤ 1000001 := by
    have h1 : L.length ≤ (List.range (X.length + 1)).length := by
      refine List.Nodup.length_le_of_subset (hg.1.imp fun h => Nat.ne_of_lt h) (fun a ha => List.mem_range.2 (by have := hg.2 a ha; omega))
    rw [List.length_range] at h1
    omega
  have hne : v.ownBlock ≠ some rb := fun e => by have := hv.ge e; omega
  have hgood : ∀ a ∈ L, a ≤ 1000000 := fun a ha => by have := hg.2 a ha; omega
  refine ⟨fun h1 h2 => ?_, fun h => ?_, fun h => ?_⟩
  · have e : stepL X c L = behindL (fun x => decide (x = c)) X L := by unfold stepL; rw [if_neg h1, if_neg h2]
    rw [e]
    refine (behind_any X rb rcap fold L v B 60 #[.pointer (some ⟨cb, 0, none⟩)] (fun x => decide (x = c)) w (enters_of Tryz.func60 (by kernel_rfl) rfl) ⟨hC.1, hC.2.1, hC.2.2.2⟩ hne hv hB hl hXl hgood (fun W hW x => ?_)).mono (fun _ _ h => h.step)
    refine eq_any x c cb W ?_
    have hb := (hW.block cb (Array.getElem?_eq_some_iff.1 hc).1 (fun e => own_not hv hc (fun cs e' => by cases e') e.symm)).trans hc
    simp [World.cell?, hb]
  · subst h
    have e : stepL X 63 L = behindL (fun _ => true) X L := rfl
    rw [e]
    exact (behind_any X rb rcap fold L v B 59 #[] (fun _ => true) w (enters_of Tryz.func59 (by kernel_rfl) rfl) ⟨hC.1, hC.2.1, hC.2.2.2⟩ hne hv hB hl hXl hgood (fun W hW x => any_any x W)).mono (fun _ _ h => h.step)
  · subst h
    have e : stepL X 42 L = onwardL X.length L := rfl
    rw [e]
    exact onward_any X rb rcap fold L v B w hv hB hXl hg.2

/-- What pattern answers. -/
def PatOut (L : List Nat) (w : World) (e : Ending) (w' : World) : Prop := ∃ v, e = .returned v ∧ Aside (Nats w' w.heap.size v L ∧ Below w.heap.size w w')
set_option maxRecDepth 100000 in
set_option maxHeartbeats 4000000 in
theorem pattern_any (X : List Int) (rb rcap : Nat) (fold : Bool) (L : List Nat) (v : Value) (p : ByteArray) (w : World) (hC : Chs w rb rcap X) (hv : NatsIn w v L) (hXl : X.length ≤ 1000000) (hg : Good X.length L) (hp : p.size ≤ 1000000) :
    Calls Tryz.prog 33 #[.agg #[.slice (some ⟨rb, 0, none⟩) X.length rcap, .bool fold], v, .string p] w fun e w' => PatOut (patL X ((all p).map (fo fold)) L) w e w' := by
  have hl : L.length ≤ 1000001 := by
    have h1 : L.length ≤ (List.range (X.length + 1)).length := by
      refine List.Nodup.length_le_of_subset (hg.1.imp fun h => Nat.ne_of_lt h) (fun a ha => List.mem_range.2 (by have := hg.2 a ha; omega))
    rw [List.length_range] at h1
    omega
  rw [← all_fs]
  obtain ⟨W0, hW0⟩ : ∃ W0, w.alloc (.cells #[.slice (some ⟨rb, 0, none⟩) X.length rcap, .bool fold] 66) = W0 := ⟨_, rfl⟩
  have hB0 : Keeps w W0 := by rw [← hW0]; exact (Below.refl _ _).alloc (Nat.le_refl _) _
  have CL := clone_any L v W0 (hv.below hB0) hl
  have SN := fun w => seen_any (.slice (some ⟨rb, 0, none⟩) X.length rcap) fold p hp w
  have HB0 : Hid (W0.heap[w.heap.size]? = some (.cells #[.slice (some ⟨rb, 0, none⟩) X.length rcap, .bool fold] 66 (0, 0)) ∧ w.heap.size < W0.heap.size ∧ Below w.heap.size w W0) := by
    refine ⟨?_, ?_, hB0⟩
    · rw [← hW0]; exact heap_alloc_new w _
    · rw [← hW0]; simp
  have HS := Lib.hid (⟨hC, hg, hXl⟩ : _ ∧ _ ∧ _)
  have hps : (fs fold p).size ≤ 1000000 := by rw [fs_size]; exact hp
  generalize fs fold p = s at *
  obtain ⟨n, hn⟩ : ∃ n, Hid (s.size = n) := ⟨_, rfl⟩
  obtain ⟨xn, hxn⟩ : ∃ xn, Hid (X.length = xn) := ⟨_, rfl⟩
  rw [hn.out] at hps
  rw [hxn.out] at hW0 HB0 SN ⊢
  have HW0 := Lib.hid hW0
  clear hC hv hXl hg hp hl hB0 hW0
  go_enter Tryz.func33, Tryz.ntmps33
  go_wp2_with fail
  rw [HW0.out]
  refine CL.mono ?_; rintro e w1 ⟨v1, rfl, h1, hb1⟩
  have K1 : Hid (Nats w1 w.heap.size v1 L ∧ Below w.heap.size w w1 ∧ w1.heap[w.heap.size]? = some (.cells #[.slice (some ⟨rb, 0, none⟩) xn rcap, .bool fold] 66 (0, 0))) :=
    ⟨h1.mono (Nat.le_of_lt HB0.out.2.1), HB0.out.2.2.trans (hb1.mono (Nat.le_of_lt HB0.out.2.1)), (hb1.block _ HB0.out.2.1).trans HB0.out.1⟩
  have c0 : w1.cell? ⟨w.heap.size, 0, none⟩ = some (.slice (some ⟨rb, 0, none⟩) xn rcap) := cell_of_heap K1.out.2.2 rfl
  have c1 : w1.cell? ⟨w.heap.size, 1, none⟩ = some (.bool fold) := cell_of_heap K1.out.2.2 rfl
  clear h1 hb1 CL
  go_wp2_with fail
  refine (SN _).mono ?_; rintro e w2 ⟨rfl, hb2⟩
  have K2 : Hid (Nats w2 w.heap.size v1 L ∧ Below w.heap.size w w2 ∧ w2.heap[w.heap.size]? = some (.cells #[.slice (some ⟨rb, 0, none⟩) xn rcap, .bool fold] 66 (0, 0))) :=
    ⟨K1.out.1.kept hb2, K1.out.2.1.trans (hb2.mono K1.out.2.1.size), (hb2.block _ (Array.getElem?_eq_some_iff.1 K1.out.2.2).1).trans K1.out.2.2⟩
  clear hb2 SN c0 c1
  go_wp2_with fail
  have hit0 : Hid ((w2.iter s 0).heap[w2.heap.size]? = some (.stringIter s 0)) := World.iter_heap w2 s 0
  have K3 : Hid (Nats (w2.iter s 0) w.heap.size v1 L ∧ Below w.heap.size w (w2.iter s 0) ∧ (w2.iter s 0).heap[w.heap.size]? = some (.cells #[.slice (some ⟨rb, 0, none⟩) xn rcap, .bool fold] 66 (0, 0))) := by
    have hb : Keeps w2 (w2.iter s 0) := (Below.refl _ _).alloc (Nat.le_refl _) _
    exact ⟨K2.out.1.kept hb, K2.out.2.1.trans (Below.mono hb K2.out.2.1.size), (hb.block _ (Array.getElem?_eq_some_iff.1 K2.out.2.2).1).trans K2.out.2.2⟩
  generalize w2.iter s 0 = w3 at *
  have LK : Hid (w.heap.size ≤ w2.heap.size) := K2.out.2.1.size
  generalize hkk : w2.heap.size = k0 at *
  have HKK := Lib.hid hkk
  clear hkk
  go_loopg [1] n (fun g t wr => ∃ (pos : Nat) (acc : List Int) (t0 : Value), t0 = t ∧ pos ≤ n ∧ n ≤ pos + g ∧ Aside (acc ++ from_ s g pos = all s ∧ Nats wr w.heap.size t0 (patL X acc L) ∧ Below w.heap.size w wr ∧ wr.heap[w.heap.size]? = some (.cells #[.slice (some ⟨rb, 0, none⟩) xn rcap, .bool fold] 66 (0, 0)) ∧ wr.heap[k0]? = some (.stringIter s pos)))
  case atStart => exact ⟨0, [], _, rfl, by omega, by omega, by simp [all, hn.out], K3.out.1, K3.out.2.1, K3.out.2.2, hit0.out⟩
  case round =>
    clear hit0 K3 K2 K1
    obtain ⟨pos, acc, t0, rfl, hp, hgg, hA⟩ := hrel
    obtain ⟨a1, a2, a3, a4, a5⟩ := hA.out
    by_cases hlt : pos < n
    · obtain ⟨g, rfl⟩ : ∃ g, gk = g + 1 := ⟨gk - 1, by omega⟩
      have hps' : pos < s.size := by rw [hn.out]; exact hlt
      have hnx := fun ty => Lib.run_next_any_at (P := Tryz.prog) wr k0 s pos ty a5 hps'
      have hf : Hid (acc ++ ((Utf8.decode s pos).1 : Int) :: from_ s g (pos + (Utf8.decode s pos).2) = all s) := by
        have := a1
        rwa [from_step s g pos hps'] at this
      have hfit := decode_fits s pos hps'
      rw [hn.out] at hfit
      obtain ⟨b1, b2, b3⟩ := decode_bounds s pos
      have hk0w : k0 < wr.heap.size := (Array.getElem?_eq_some_iff.1 a5).1
      have hneB : w.heap.size ≠ k0 := fun e => by rw [← e, a4] at a5; cases a5
      have KI : Hid (Nats (wr.iterAt k0 s (pos + (Utf8.decode s pos).2)) w.heap.size t0 (patL X acc L) ∧ Below w.heap.size w (wr.iterAt k0 s (pos + (Utf8.decode s pos).2)) ∧ (wr.iterAt k0 s (pos + (Utf8.decode s pos).2)).heap[w.heap.size]? = some (.cells #[.slice (some ⟨rb, 0, none⟩) xn rcap, .bool fold] 66 (0, 0)) ∧ (wr.iterAt k0 s (pos + (Utf8.decode s pos).2)).heap[k0]? = some (.stringIter s (pos + (Utf8.decode s pos).2))) := by
        refine ⟨World.ownsRow.kept a2 (row := some k0) ?_ (.inr (own_not a2 a5 (fun cs e => by cases e))), Lib.below_iterAt a3 LK.out s _, (Lib.iterAt_other wr k0 _ s _ hneB).trans a4, Lib.iterAt_heap wr k0 s pos _ a5⟩
        exact ⟨rfl, rfl, rfl, by rw [Lib.iterAt_size]; exact Nat.le_refl _, fun k hk hne => Lib.iterAt_other wr k0 k s _ (fun e => hne (by rw [e]))⟩
      have hgood : Hid (Good X.length (patL X acc L)) := pat_good acc HS.out.2.1
      clear a1 a2 a3 a4 a5 hA
      generalize ((Utf8.decode s pos).1 : Int) = c at *
      generalize (Utf8.decode s pos).2 = K at *
      generalize hW : wr.iterAt k0 s (pos + K) = W at *
      have HW := Lib.hid hW
      clear hW
      obtain ⟨W', hW'⟩ : ∃ W', W.alloc (.cells #[.int .i32 c] 21) = W' := ⟨_, rfl⟩
      have KJ : Hid (Nats W' w.heap.size t0 (patL X acc L) ∧ Below w.heap.size w W' ∧ W'.heap[w.heap.size]? = some (.cells #[.slice (some ⟨rb, 0, none⟩) xn rcap, .bool fold] 66 (0, 0)) ∧ W'.heap[k0]? = some (.stringIter s (pos + K)) ∧ W'.heap[W.heap.size]? = some (.cells #[.int .i32 c] 21 (0, 0))) := by
        rw [← hW']
        obtain ⟨q1, q2, q3, q4⟩ := KI.out
        exact ⟨World.ownsRow.alloc q1 _, q2.alloc q2.size _, (Below.heap_alloc W _ _ (Array.getElem?_eq_some_iff.1 q3).1).trans q3, (Below.heap_alloc W _ _ (Array.getElem?_eq_some_iff.1 q4).1).trans q4, heap_alloc_new W _⟩
      have ST := step_any X rb rcap fold (patL X acc L) t0 w.heap.size W.heap.size c W' (HS.out.1.below KJ.out.2.1) HS.out.1.2.2.1 KJ.out.1 KJ.out.2.1.size HS.out.2.2 hgood.out KJ.out.2.2.2.2
      rw [hxn.out] at ST
      have ST1 := Lib.hid ST
      have SX : Hid (stepL X c (patL X acc L) = patL X (acc ++ [c]) L) := (pat_snoc X acc c L).symm
      have h0 : W.cell? ⟨w.heap.size, 0, none⟩ = some (.slice (some ⟨rb, 0, none⟩) xn rcap) := cell_of_heap KI.out.2.2.1 rfl
      have h1 : W.cell? ⟨w.heap.size, 1, none⟩ = some (.bool fold) := cell_of_heap KI.out.2.2.1 rfl
      have h2 : w.heap.size < W.heap.size := (Array.getElem?_eq_some_iff.1 KI.out.2.2.1).1
      have NX : Hid (∀ v' w4, Nats w4 w.heap.size v' (stepL X c (patL X acc L)) → W'.grownBy w4 t0.ownBlock → acc ++ [c] ++ from_ s g (pos + K) = all s ∧ Nats w4 w.heap.size v' (patL X (acc ++ [c]) L) ∧ Below w.heap.size w w4 ∧ w4.heap[w.heap.size]? = some (.cells #[.slice (some ⟨rb, 0, none⟩) xn rcap, .bool fold] 66 (0, 0)) ∧ w4.heap[k0]? = some (.stringIter s (pos + K))) := fun v' w4 n1 n2 => by
        obtain ⟨q1, q2, q3, q4, q5⟩ := KJ.out
        refine ⟨by rw [← hf.out]; simp, by rw [← SX.out]; exact n1, q2.grown n2 q2.size (fun k hk => q1.ge hk), ?_, ?_⟩
        · exact (n2.block _ (Array.getElem?_eq_some_iff.1 q3).1 (fun e => own_not q1 q3 (fun cs e' => by cases e') e.symm)).trans q3
        · exact (n2.block _ (Array.getElem?_eq_some_iff.1 q4).1 (fun e => own_not q1 q4 (fun cs e' => by cases e') e.symm)).trans q4
      have HW' := Lib.hid hW'
      clear hW' ST KI hf SX
      by_cases h42 : c = 42
      · have C := ST1.out.2.2 h42
        subst h42
        clear ST1
        go_wp2_with fail
        rw [HW'.out]
        (with_reducible refine C.mono ?_); rintro e w4 ⟨v', rfl, n1, n2, -⟩
        have NX := Lib.hid (NX.out v' w4 n1 n2)
        clear n1 n2 C h0 h1 h2
        go_wp2_with fail
        go_roundg g
        case measure => omega
        case rel => exact ⟨pos + K, acc ++ [42], v', rfl, by omega, by omega, NX.out⟩
      · have e1 : (c == 42) = false := beq_eq_false_iff_ne.2 h42
        by_cases h63 : c = 63
        · have C := ST1.out.2.1 h63
          subst h63
          clear ST1 h42
          go_wp2_with fail
          rw [HW'.out]
          (with_reducible refine C.mono ?_); rintro e w4 ⟨v', rfl, n1, n2, -⟩
          have NX := Lib.hid (NX.out v' w4 n1 n2)
          clear n1 n2 C h0 h1 h2
          go_wp2_with fail
          go_roundg g
          case measure => omega
          case rel => exact ⟨pos + K, acc ++ [63], v', rfl, by omega, by omega, NX.out⟩
        · have e2 : (c == 63) = false := beq_eq_false_iff_ne.2 h63
          have C := ST1.out.1 h42 h63
          clear ST1 h42 h63
          go_wp2_with fail
          rw [HW'.out]
          (with_reducible refine C.mono ?_); rintro e w4 ⟨v', rfl, n1, n2, -⟩
          have NX := Lib.hid (NX.out v' w4 n1 n2)
          clear n1 n2 C h0 h1 h2
          go_wp2_with fail
          go_roundg g
          case measure => omega
          case rel => exact ⟨pos + K, acc ++ [c], v', rfl, by omega, by omega, NX.out⟩
    · have hpn : ¬ pos < s.size := by rw [hn.out]; exact hlt
      have hnx := fun ty => Lib.run_next_end_at (P := Tryz.prog) wr k0 s pos ty a5 hpn
      have V : Aside (acc = all s) := by
        have := a1
        rw [from_end s gk pos (by omega)] at this
        exact (List.append_nil acc).symm.trans this
      clear a1 a2 a3 a4 a5
      go_wp2_with fail
      go_ret
      exact ⟨t0, rfl, by rw [← V.out]; exact hA.out.2.1, hA.out.2.2.1⟩
end Go.Proofs.YtoilalffhmjhdaaGreatDoor.subst
