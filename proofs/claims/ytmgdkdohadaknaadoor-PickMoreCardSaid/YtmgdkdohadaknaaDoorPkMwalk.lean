/- The walk of the law on one more candidate: it returns true, and what was there stays. -/
import Derived.Test.YtmgdkdohadaknaaDoorPkSpeaks
import Derived.Test.YtmgdkdohadaknaaDoorPkSame
import Derived.Test.YtmgdkdohadaknaaDoorPkMath2
import Derived.Deep.DeepCutAuto
set_option linter.unusedSimpArgs false
set_option linter.unusedVariables false
namespace Go.Proofs.YtmgdkdohadaknaaDoor.pick
open Go.RowKit Go.Proofs.YtmgdkdohadaknaaDoor.errs Go.Proofs.YtmgdkdohadaknaaDoor.wire

/-- A store into a truth's cell leaves texts alone. -/
theorem StrsIn.setBool {w : World} {v : Value} {l : List ByteArray} (h : StrsIn w v l) {p : Addr} {t : Bool} (hp : w.cell? p = some (.bool t)) (u : Value) : StrsIn (w.setCell p u) v l := by
  obtain ⟨a, cap, rfl, h1, h2, h3⟩ := h
  refine ⟨a, cap, rfl, h1, h2, fun h => ?_⟩
  obtain ⟨b, o, rfl, hB⟩ := h3 h
  refine ⟨b, o, rfl, fun j hj => ?_⟩
  have hc := hB j hj
  rw [← hc]
  exact World.cell?_setCell_other _ _ _ _ (fun e => by rw [← e, hp] at hc; cases hc)
theorem cdAt_last (L : List Cd) (x : Cd) : cdAt (L ++ [x]) L.length = x := by unfold cdAt; simp [List.getD_eq_getElem?_getD]
theorem cdAt_init (L : List Cd) (x : Cd) {j : Nat} (h : j < L.length) : cdAt (L ++ [x]) j = cdAt L j := by
  unfold cdAt
  rw [List.getD_eq_getElem?_getD, List.getD_eq_getElem?_getD, List.getElem?_append_left h]
/-- The last candidate, switched off. -/
theorem set_off {w : World} {g n cap : Nat} {L : List Cd} {id : ByteArray} (h : CdsIn w (.slice (some ⟨g, 0, none⟩) n cap) (L ++ [onCd id])) :
    CdsIn (w.setCell ⟨g, L.length * 5 + 4, none⟩ (.bool true)) (.slice (some ⟨g, 0, none⟩) n cap) (L ++ [offCd id]) := by
  obtain ⟨e, h1, h2, h3⟩ := h.at
  have hl : (L ++ [onCd id]).length = L.length + 1 := by simp
  have hl2 : (L ++ [offCd id]).length = L.length + 1 := by simp
  rw [hl] at e
  subst e
  refine ⟨_, cap, by rw [hl2], by rw [hl2]; exact h1, h2, fun _ => ⟨g, 0, rfl, fun j hj => ?_⟩⟩
  rw [hl2] at hj
  obtain ⟨b, o, hb, hc⟩ := h3 j hj
  cases hb
  have ne : ∀ i, j * 5 + i ≠ L.length * 5 + 4 → (w.setCell ⟨g, L.length * 5 + 4, none⟩ (.bool true)).cell? ⟨g, 0 + j * 5 + i, none⟩ = w.cell? ⟨g, 0 + j * 5 + i, none⟩ := fun i hi =>
    World.cell?_setCell_other _ _ _ _ (fun e => hi (by have := congrArg Addr.off e; simp at this; omega))
  by_cases hjl : j < L.length
  · rw [cdAt_init _ _ hjl] at hc ⊢
    exact ⟨(ne 0 (by omega)).trans hc.1, (ne 1 (by omega)).trans hc.2.1, (ne 2 (by omega)).trans hc.2.2.1, (ne 3 (by omega)).trans hc.2.2.2.1, (ne 4 (by omega)).trans hc.2.2.2.2⟩
  · obtain rfl : j = L.length := by omega
    rw [cdAt_last] at hc ⊢
    refine ⟨(ne 0 (by omega)).trans hc.1, (ne 1 (by omega)).trans hc.2.1, (ne 2 (by omega)).trans hc.2.2.1, (ne 3 (by omega)).trans hc.2.2.2.1, ?_⟩
    rw [show 0 + L.length * 5 + 4 = L.length * 5 + 4 by omega]
    exact World.cell?_setCell_same' _ _ _ (by have := hc.2.2.2.2; rw [show 0 + L.length * 5 + 4 = L.length * 5 + 4 by omega] at this; rw [this]; rfl)
end Go.Proofs.YtmgdkdohadaknaaDoor.pick
namespace Go.Proofs.YtmgdkdohadaknaaDoor.pickMore
open Go.RowKit Go.Proofs.YtmgdkdohadaknaaDoor.errs Go.Proofs.YtmgdkdohadaknaaDoor.wire Go.Proofs.YtmgdkdohadaknaaDoor.pick

set_option maxRecDepth 100000 in
set_option maxHeartbeats 4000000 in
theorem law (a : Option Addr) (len cap : Nat) (L : List Cd) (id : ByteArray) (W : World) (hI : (a = none → cap = 0) ∧ CdsIn W (.slice a len cap) L) (hS : ∀ x ∈ L, x.app.size ≤ 281474976710656) (hid : id.size ≤ 281474976710656) (hT : Tabs W) :
    Calls Tryd.prog 7 #[.slice a len cap, .string id] W fun e w' => e = .returned (.bool true) ∧ Below W.heap.size W w' := by
  have HN := Lib.hid hI.1
  have hln : len = L.length := (hI.2.at).1
  have HI := Lib.hid hI.2
  have HS := Lib.hid hS
  have HID := Lib.hid hid
  have SP := speaks_any W hT
  obtain ⟨i5, hi5, hz5, hs5, hy5⟩ := info_of infoCd
  have HLN := Lib.hid hln
  clear hI hS hT hln hid
  go_enter Tryd.func7, Tryd.ntmps7
  go_wp2_with fail
  refine SP.mono ?_; rintro e w1 ⟨rfl, hb1⟩
  have HB1 := Lib.hid hb1
  clear hb1 SP
  by_cases h2 : len ≤ 200
  · have y0 : ¬ (200 : Int) < (len : Int) := by omega
    have C1 := web_any L HS.out (by rw [← HLN.out]; omega) _ w1 (HI.out.below HB1.out)
    go_wp2_with fail
    refine C1.mono ?_; rintro e w2 ⟨x, rfl, ⟨s1, rfl, hs1⟩, hb2⟩
    obtain ⟨sa, ca, rfl⟩ := hs1.form
    obtain ⟨A, hA⟩ : ∃ A, Hid (webA L = A) := ⟨_, rfl⟩
    rw [hA.out] at hs1 ⊢
    obtain ⟨m, hm⟩ : ∃ m, Hid (A.apps.length = m) := ⟨_, rfl⟩
    rw [hm.out] at hs1 ⊢
    have hB2 := HB1.out.trans (hb2.mono HB1.out.size)
    have b3 : Below w2.heap.size w2 (w2.alloc (.cells #[.int .i64 A.kind, .slice sa m ca, .int .i64 A.why] 29)) := (Below.refl _ _).alloc (Nat.le_refl _) _
    have K3 := blk_new w2 #[.int .i64 A.kind, .slice sa m ca, .int .i64 A.why] 29
    have H3 := Lib.hid (And.intro K3 (And.intro (hs1.below b3) (hB2.trans (b3.mono hB2.size))))
    clear hs1 hb2 hB2 b3 K3 C1
    go_upto_region 6 with fail
    generalize w2.alloc (.cells #[.int .i64 A.kind, .slice sa m ca, .int .i64 A.why] 29) = W3 at *
    generalize w2.heap.size = q3 at *
    -- the row of more candidates
    have OE : OwnC (W3.alloc (.cells #[] 25)) W3.heap.size (.slice (some ⟨W3.heap.size, 0, none⟩) 0 0) [] := World.ownsRow_lit W3 #[] 0 (Nat.le_refl _) (by unfold maxLen; omega) rfl
    have BE : Below W3.heap.size W3 (W3.alloc (.cells #[] 25)) := (Below.refl _ _).alloc (Nat.le_refl _) _
    have HZ : Hid (W3.heap.size ≤ (W3.alloc (.cells #[] 25)).heap.size) := BE.size
    have HE := Lib.hid (And.intro OE (And.intro BE ((HI.out.below H3.out.2.2).below BE)))
    clear OE BE
    go_wp2_with (at_builtin; refine append_cds hi5 hz5 hs5 hy5 HE.out.1 a len cap HE.out.2.2 HN.out (Nat.zero_le _) (by rw [← HLN.out]; omega) HZ.out rfl _ _ rfl rfl rfl ?_)
    intro v4 w4 hO4 hb4 _
    have H4 := Lib.hid (And.intro hO4 (HE.out.2.1.trans hb4))
    clear hO4 hb4 HE HZ
    go_wp2_with (at_builtin; refine push_cd hi5 hz5 hs5 hy5 H4.out.1 (onCd id) (by rw [← HLN.out]; omega) H4.out.2.size rfl _ _ rfl rfl _ rfl rfl ?_)
    intro v5 w5 hP5
    have hlen : (L ++ [onCd id]).length = len + 1 := by rw [List.length_append, ← HLN.out]; rfl
    have B5 := H4.out.2.trans hP5.below
    obtain ⟨g, gc, cur, rfl, hgB, hg, -⟩ : ∃ g gc cur, v5 = .slice (some ⟨g, 0, none⟩) (len + 1) gc ∧ W3.heap.size ≤ g ∧ Blk w5 g cur 25 ∧ True := by
      have hown : w5.ownsRow W3.heap.size 25 5 v5 (L ++ [onCd id]).length (flat (L ++ [onCd id])) := hP5.own
      rcases hown.2 with ⟨-, h0⟩ | ⟨g, gc, cur, e, h1, h2, -⟩
      · rw [hlen] at h0; cases h0
      · exact ⟨g, gc, cur, by rw [e, hlen], h1, h2, trivial⟩
    have I5 := hP5.own.reads
    have C5 := web_any (L ++ [onCd id]) (fun x hx => by rcases List.mem_append.1 hx with h | h; exact HS.out x h; rw [List.mem_singleton.1 h]; exact HID.out) (by rw [hlen]; omega) _ w5 I5
    have H5 := Lib.hid (And.intro I5 (And.intro hg (And.intro hgB B5)))
    clear hP5 I5 hg hgB B5 H4 hlen
    go_wp2_with fail
    refine C5.mono ?_; rintro e w6 ⟨x, rfl, ⟨s2, rfl, hs2⟩, hb6⟩
    obtain ⟨sb, cb, rfl⟩ := hs2.form
    have hkb := web_on_kind L id
    have hab : (webA (L ++ [onCd id])).apps = A.apps ++ [id] := by rw [web_apps, apps_on, ← hA.out, web_apps]
    obtain ⟨B, hB⟩ : ∃ B, Hid (webA (L ++ [onCd id]) = B) := ⟨_, rfl⟩
    rw [hB.out] at hs2 hkb hab ⊢
    have hlb : B.apps.length = m + 1 := by rw [hab, List.length_append, hm.out]; rfl
    rw [hlb] at hs2 ⊢
    have B6 := H5.out.2.2.2.trans (hb6.mono H5.out.2.2.2.size)
    have b7 : Below w6.heap.size w6 (w6.alloc (.cells #[.int .i64 B.kind, .slice sb (m + 1) cb, .int .i64 B.why] 29)) := (Below.refl _ _).alloc (Nat.le_refl _) _
    have K7 := blk_new w6 #[.int .i64 B.kind, .slice sb (m + 1) cb, .int .i64 B.why] 29
    have I7 := (H5.out.1.below hb6).below b7
    have HG := Lib.hid (And.intro (H5.out.2.1.lt) hb6.size)
    have G7 := (H5.out.2.1.below hb6 H5.out.2.1.lt).below b7 (Nat.lt_of_lt_of_le H5.out.2.1.lt hb6.size)
    have H7 := Lib.hid (And.intro I7 (And.intro G7 (And.intro K7 (And.intro (hs2.below b7) (B6.trans (b7.mono B6.size))))))
    have HKB := Lib.hid (And.intro hkb hab)
    clear hs2 hb6 B6 b7 K7 I7 G7 C5 hkb hab hlb
    go_upto_region 8 with fail
    have HQ : Hid (g < w6.heap.size ∧ W3.heap.size ≤ g) := ⟨Nat.lt_of_lt_of_le HG.out.1 HG.out.2, H5.out.2.2.1⟩
    clear HG
    generalize w6.alloc (.cells #[.int .i64 B.kind, .slice sb (m + 1) cb, .int .i64 B.why] 29) = W7 at *
    generalize w6.heap.size = q6 at *
    have hc : W7.cell? ⟨g, len * 5 + 4, none⟩ = some (.bool false) := by
      obtain ⟨b0, o0, hb0, hc⟩ := (H7.out.1.at).2.2.2 len (by omega)
      cases hb0
      have e : cdAt (L ++ [onCd id]) len = onCd id := by rw [HLN.out]; exact cdAt_last _ _
      rw [e] at hc
      have := hc.2.2.2.2
      rwa [show 0 + len * 5 + 4 = len * 5 + 4 by omega] at this
    have hf := H7.out.2.1.frz (len * 5 + 4)
    have z0 : (0 : Int) ≤ (len : Int) := by omega
    have z1 : (len : Int) < ((len : Int) + 1) := by omega
    have I8 := set_off H7.out.1
    rw [← HLN.out] at I8
    have A8 := ((H3.out.1.below H7.out.2.2.2.2 H3.out.1.lt).other ⟨g, len * 5 + 4, none⟩ (by have := HQ.out.2; have := H3.out.1.lt; show q3 ≠ g; omega) (.bool true))
    have K8 := H7.out.2.2.1.other ⟨g, len * 5 + 4, none⟩ (by have := HQ.out.1; show q6 ≠ g; omega) (.bool true)
    have S8 := (H3.out.2.1.below H7.out.2.2.2.2).setBool hc (.bool true)
    have T8 := H7.out.2.2.2.1.setBool hc (.bool true)
    have B8 := H7.out.2.2.2.2.setCell (p := ⟨g, len * 5 + 4, none⟩) HQ.out.2 (.bool true)
    have H8 := Lib.hid (And.intro I8 (And.intro A8 (And.intro K8 (And.intro S8 (And.intro T8 (H3.out.2.2.trans (B8.mono H3.out.2.2.size)))))))
    clear I8 A8 K8 S8 T8 B8 H7 H5 H3
    go_upto_region 9 with fail
    generalize W7.setCell ⟨g, len * 5 + 4, none⟩ (.bool true) = W8 at *
    clear hc hf
    have C8 := web_any (L ++ [offCd id]) (fun x hx => by rcases List.mem_append.1 hx with h | h; exact HS.out x h; rw [List.mem_singleton.1 h]; exact HID.out) (by rw [List.length_append, ← HLN.out]; show len + 1 ≤ 1000; omega) _ W8 H8.out.1
    go_wp2_with fail
    refine C8.mono ?_; rintro e w9 ⟨x, rfl, ⟨s3, rfl, hs3⟩, hb9⟩
    obtain ⟨sd, cd, rfl⟩ := hs3.form
    have hoff : (A.apps = [] → webA (L ++ [offCd id]) = ⟨2, [], 7⟩) ∧ (A.apps ≠ [] → webA (L ++ [offCd id]) = A) := by
      rw [← hA.out, web_apps]
      exact ⟨fun h => web_off_none id h, fun h => web_off_some id h⟩
    obtain ⟨D, hD⟩ : ∃ D, Hid (webA (L ++ [offCd id]) = D) := ⟨_, rfl⟩
    rw [hD.out] at hs3 hoff ⊢
    obtain ⟨nd, hnd⟩ : ∃ nd, Hid (D.apps.length = nd) := ⟨_, rfl⟩
    rw [hnd.out] at hs3 ⊢
    have B9 := H8.out.2.2.2.2.2.trans (hb9.mono H8.out.2.2.2.2.2.size)
    have bA : Below w9.heap.size w9 (w9.alloc (.cells #[.int .i64 D.kind, .slice sd nd cd, .int .i64 D.why] 29)) := (Below.refl _ _).alloc (Nat.le_refl _) _
    have kA := blk_new w9 #[.int .i64 D.kind, .slice sd nd cd, .int .i64 D.why] 29
    have bb : Below W8.heap.size W8 (w9.alloc (.cells #[.int .i64 D.kind, .slice sd nd cd, .int .i64 D.why] 29)) := hb9.trans (bA.mono hb9.size)
    have HA := Lib.hid (And.intro (H8.out.2.1.below bb H8.out.2.1.lt) (And.intro (H8.out.2.2.1.below bb H8.out.2.2.1.lt) (And.intro kA (And.intro (H8.out.2.2.2.1.below bb) (And.intro (H8.out.2.2.2.2.1.below bb) (And.intro (hs3.below bA) (B9.trans (bA.mono B9.size))))))))
    have HOFF := Lib.hid hoff
    clear hs3 hb9 B9 bA kA bb C8 H8 hoff
    go_upto_region 10 with fail
    generalize w9.alloc (.cells #[.int .i64 D.kind, .slice sd nd cd, .int .i64 D.why] 29) = WA at *
    generalize w9.heap.size = q9 at *
    have u0 := HA.out.1.get 0
    have u1 := HA.out.1.get 1
    have u2 := HA.out.1.get 2
    have v0 := HA.out.2.1.get 0
    have v1 := HA.out.2.1.get 1
    have t0 := HA.out.2.2.1.get 0
    have t1 := HA.out.2.2.1.get 1
    have t2 := HA.out.2.2.1.get 2
    simp only [List.getElem?_toArray, List.getElem?_cons_zero, List.getElem?_cons_succ] at u0 u1 u2 v0 v1 t0 t1 t2
    obtain ⟨b8, o8, rfl, hid⟩ := (HA.out.2.2.2.2.1.at).2.2.2 m (by omega)
    have hid2 : B.apps.getD m ⟨#[]⟩ = id := by rw [HKB.out.2, ← hm.out]; simp [List.getD_eq_getElem?_getD]
    rw [hid2] at hid
    have hm200 : m ≤ 200 := by
      have h1 := appsOf_len L
      rw [← web_apps, hA.out, hm.out, ← HLN.out] at h1
      omega
    have m0 : (0 : Int) ≤ (m : Int) := by omega
    have m1 : (m : Int) < (m : Int) + 1 := by omega
    have hw : IntKind.i64.wrap ((m : Int) + 1) = (m : Int) + 1 := IntWalk.i64_in _ (by omega)
    have nn : (((m : Int) + 1) != ((m : Int) + 1)) = false := by rw [bne_eq_false_iff_eq]
    have ni : (id.toList != id.toList) = false := by rw [bne_eq_false_iff_eq]
    clear hid2
    by_cases hz : m = 0
    · have hae : A.apps = [] := List.length_eq_zero_iff.1 (hm.out.trans hz)
      have hk : B.kind = 3 := by
        rw [HKB.out.1, if_pos]
        rw [← web_apps, hA.out]; exact hae
      have hd := HOFF.out.1 hae
      rw [hk] at v0
      have y1 : ((m : Int) == 0) = true := by rw [beq_iff_eq]; omega
      have hdk : D.kind = 2 := by rw [hd]
      have hdw : D.why = 7 := by rw [hd]
      rw [hdk] at t0
      rw [hdw] at t2
      clear hz hae hk hd hdk hdw
      go_wp2_with fail
      go_ret
      exact ⟨rfl, HA.out.2.2.2.2.2.2⟩
    · have hae : A.apps ≠ [] := fun e => hz (by rw [← hm.out, e]; rfl)
      have hk : B.kind = 4 := by
        rw [HKB.out.1, if_neg]
        rw [← web_apps, hA.out]; exact hae
      have hd := HOFF.out.2 hae
      rw [hk] at v0
      have y1 : ((m : Int) == 0) = false := by rw [beq_eq_false_iff_ne]; omega
      have y2 : (0 : Int) < (m : Int) := by omega
      have S := same_is A (.agg #[.int .i64 A.kind, .slice sa m ca, .int .i64 A.why]) (.agg #[.int .i64 D.kind, .slice sd nd cd, .int .i64 D.why]) WA ⟨_, rfl, HA.out.2.2.2.1⟩ ⟨_, by rw [hd], by rw [← hd]; exact HA.out.2.2.2.2.2.1⟩
      clear hz hae hk hd
      go_wp2_with fail
      refine S.mono ?_; rintro e wB ⟨rfl, hbB⟩
      have HB := Lib.hid (HA.out.2.2.2.2.2.2.trans (hbB.mono HA.out.2.2.2.2.2.2.size))
      clear hbB S
      go_wp2_with fail
      go_ret
      exact ⟨rfl, HB.out⟩
  · have y0 : (200 : Int) < (len : Int) := by omega
    go_wp2_with fail
    go_ret
    exact ⟨rfl, HB1.out⟩
end Go.Proofs.YtmgdkdohadaknaaDoor.pickMore
