/- pick.whyNone: why none of some candidates is ready. -/
import Derived.Test.YtmgdkdohadaknaaDoorPkReady
import Derived.Test.YtmgdkdohadaknaaDoorPkShelfP
set_option linter.unusedSimpArgs false
set_option linter.unusedVariables false
namespace Go.Proofs.YtmgdkdohadaknaaDoor.pick
open Go.RowKit Go.Proofs.YtmgdkdohadaknaaDoor.errs
instance : Inhabited Cd := ⟨noCd⟩

theorem cdAt_bang {L : List Cd} {j : Nat} (h : j < L.length) : L[j]! = cdAt L j := by
  unfold cdAt
  rw [getElem!_pos L j h, List.getD_eq_getElem?_getD, List.getElem?_eq_getElem h]; rfl

theorem index_none (a : Option Addr) (cap : Nat) (f : Value) (w : World) :
    Calls Tryd.prog 39 #[.slice a 0 cap, f] w fun e w' => e = .returned (.int .i64 (-1)) ∧ w = w' := by
  go_enter Tryd.func39, Tryd.ntmps39
  go_wp2_with fail
  go_loopg [8] 0 (fun g t wr => t = .int .i64 0 ∧ w = wr)
  case atStart => exact ⟨rfl, rfl⟩
  case round =>
    obtain ⟨rfl, rfl⟩ := hrel
    go_wp2_with fail
    go_ret
    exact ⟨rfl, rfl⟩
theorem contains_none (a : Option Addr) (cap : Nat) (f : Value) (w : World) :
    Calls Tryd.prog 31 #[.slice a 0 cap, f] w fun e w' => e = .returned (.bool false) ∧ Below w.heap.size w w' := by
  go_enter Tryd.func31, Tryd.ntmps31
  go_wp2_with fail
  refine (index_none a cap f w).mono ?_; rintro e w1 ⟨rfl, rfl⟩
  go_wp2_with fail
  go_ret
  exact ⟨rfl, Below.refl _ _⟩

/-- slices.ContainsFunc at candidates. -/
theorem contains_any (g : FuncId) (p : Cd → Bool) (hp : ∀ x w, Calls Tryd.prog g #[.agg (arr x)] w fun e w' => e = .returned (.bool (p x)) ∧ Below w.heap.size w w')
    (eg : ∀ args w, (callFunc g args).run Tryd.prog w = .ok (.enter g args) w) (v : Value) (L : List Cd) (w : World) (h : CdsIn w v L) :
    Calls Tryd.prog 31 #[v, .func (.func g) #[] #[]] w fun e w' => e = .returned (.bool (L.any p)) ∧ Below w.heap.size w w' := by
  obtain ⟨a, cap, rfl⟩ := h.form
  obtain ⟨-, h1, h2, h3⟩ := h.at
  have hpb : PredBelow Tryd.prog g #[] (fun x => .agg (enc x).toArray) p w := fun W x hb => (hp x W).mono fun e w' ⟨he, hb'⟩ => ⟨he, hb.trans (hb'.mono hb.size)⟩
  by_cases hl : L.length = 0
  · obtain rfl := List.length_eq_zero_iff.1 hl
    exact contains_none a cap _ w
  · obtain ⟨b, o, rfl, hc⟩ := h3 0 (by omega)
    have hbl : b < w.heap.size := lt_of_cell hc.1
    have := AnyQ.slices_ContainsFunc Tryd.containsP 5 Tryd.isAgg25 Tryd.sizeOf25 enc (fun _ => rfl) p g #[] eg b o L.length cap L w hpb (Nat.le_refl _) (by omega) hbl (fun j hj i u hu => by
      obtain ⟨b', o', e, hcd⟩ := h3 j hj
      cases e
      rw [cdAt_bang hj] at hu
      exact hcd.get i u hu)
    rw [List.take_length] at this
    exact this

theorem one_any (g : FuncId) (p : Cd → Bool) (hp : ∀ x w, Calls Tryd.prog g #[.agg (arr x)] w fun e w' => e = .returned (.bool (p x)) ∧ Below w.heap.size w w')
    (eg : ∀ args w, (callFunc g args).run Tryd.prog w = .ok (.enter g args) w) (b : Nat) (v : Value) (L : List Cd) (w : World) (hv : w.cell? ⟨b, 0, none⟩ = some v) (h : CdsIn w v L) :
    Calls Tryd.prog 30 #[.func (.func g) #[] #[], .pointer (some ⟨b, 0, none⟩)] w fun e w' => e = .returned (.bool (L.any p)) ∧ Below w.heap.size w w' := by
  have C := contains_any g p hp eg v L w h
  obtain ⟨a, cap, rfl⟩ := h.form
  generalize L.any p = t at C
  go_enter Tryd.func30, Tryd.ntmps30
  go_wp2_with fail
  refine C.mono ?_; rintro e w1 ⟨rfl, hb⟩
  have HB := Lib.hid hb
  clear hb C
  go_wp2_with fail
  go_ret
  exact ⟨rfl, HB.out⟩
theorem whyNone_any (v : Value) (L : List Cd) (w : World) (h : CdsIn w v L) :
    Calls Tryd.prog 22 #[v] w fun e w' => e = .returned (.int .i64 (whyNone L)) ∧ Below w.heap.size w w' := by
  have hmf : ∀ (fn : Fn) (first cap : Array Value) (w : World), (Instr.makeFunc fn first cap).run Tryd.prog w = .ok (.func fn first cap) w := fun _ _ _ _ => rfl
  obtain ⟨a, cap, rfl⟩ := h.form
  obtain ⟨W, hW⟩ : ∃ W, w.alloc (.cells #[.slice a L.length cap] 22) = W := ⟨_, rfl⟩
  obtain ⟨b, hb⟩ : ∃ b, w.heap.size = b := ⟨_, rfl⟩
  have HB : Hid (Below w.heap.size w W) := by show Below _ _ _; rw [← hW]; exact (Below.refl _ w).alloc (Nat.le_refl _) _
  have C1 : ∀ W', Below W.heap.size W W' → W'.cell? ⟨b, 0, none⟩ = some (.slice a L.length cap) := fun W' h' => by
    rw [h'.cell (p := ⟨b, 0, none⟩) (by rw [← hW, ← hb]; simp), ← hW, ← hb, World.cell?_alloc_at _ _ _ _ rfl]; rfl
  have C2 : ∀ W', Below W.heap.size W W' → CdsIn W' (.slice a L.length cap) L := fun W' h' => (h.below HB.out).below h'
  have D1 := fun W' (h' : Below W.heap.size W W') => one_any 32 isOff off_any (fun _ _ => by kernel_rfl) b (.slice a L.length cap) L W' (C1 W' h') (C2 W' h')
  have D2 := fun W' (h' : Below W.heap.size W W') => one_any 33 isRules rules_any (fun _ _ => by kernel_rfl) b (.slice a L.length cap) L W' (C1 W' h') (C2 W' h')
  have D3 := fun W' (h' : Below W.heap.size W W') => one_any 34 isUnknown unknown_any (fun _ _ => by kernel_rfl) b (.slice a L.length cap) L W' (C1 W' h') (C2 W' h')
  clear C1 C2 h
  obtain ⟨t, ht⟩ : ∃ t, t = whyNone L := ⟨_, rfl⟩
  rw [← ht]
  unfold whyNone at ht
  have HT := Lib.hid ht
  clear ht
  generalize L.any isOff = x1 at *
  generalize L.any isRules = x2 at *
  generalize L.any isUnknown = x3 at *
  go_enter Tryd.func22, Tryd.ntmps22
  go_wp2_with fail
  have HBB := Lib.hid hb
  clear hW hb
  have E1 := D1 W (Below.refl _ _)
  clear D1
  cases x1 with
  | true =>
    refine E1.mono ?_; rintro e w1 ⟨rfl, h1⟩
    have K1 : Hid (Below W.heap.size W w1) := h1
    clear h1 E1 D2 D3
    go_wp2_with fail
    go_ret
    exact ⟨by rw [HT.out]; rfl, HB.out.trans (K1.out.mono HB.out.size)⟩
  | false =>
    refine E1.mono ?_; rintro e w1 ⟨rfl, h1⟩
    have E2 := D2 w1 h1
    have K1 : Hid (Below W.heap.size W w1) := h1
    clear h1 E1 D2
    go_wp2_with fail
    cases x2 with
    | true =>
      refine E2.mono ?_; rintro e w2 ⟨rfl, h2⟩
      have K2 : Hid (Below W.heap.size W w2) := K1.out.trans (h2.mono K1.out.size)
      clear h2 E2 D3
      go_wp2_with fail
      go_ret
      exact ⟨by rw [HT.out]; rfl, HB.out.trans (K2.out.mono HB.out.size)⟩
    | false =>
      refine E2.mono ?_; rintro e w2 ⟨rfl, h2⟩
      have K2 : Hid (Below W.heap.size W w2) := K1.out.trans (h2.mono K1.out.size)
      have E3 := D3 w2 K2.out
      clear h2 E2 D3
      go_wp2_with fail
      cases x3 with
      | true =>
        refine E3.mono ?_; rintro e w3 ⟨rfl, h3⟩
        have K3 : Hid (Below W.heap.size W w3) := K2.out.trans (h3.mono K2.out.size)
        clear h3 E3
        go_wp2_with fail
        go_ret
        exact ⟨by rw [HT.out]; rfl, HB.out.trans (K3.out.mono HB.out.size)⟩
      | false =>
        refine E3.mono ?_; rintro e w3 ⟨rfl, h3⟩
        have K3 : Hid (Below W.heap.size W w3) := K2.out.trans (h3.mono K2.out.size)
        clear h3 E3
        go_wp2_with fail
        go_ret
        exact ⟨by rw [HT.out]; rfl, HB.out.trans (K3.out.mono HB.out.size)⟩
end Go.Proofs.YtmgdkdohadaknaaDoor.pick
