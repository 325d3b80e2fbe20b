/- subst.CheckVar: what is wrong with any variable. -/
import Derived.Test.YtafopoacnngaeaaGreatDoorSvClass
import Derived.Test.YtafopoacnngaeaaGreatDoorSbSpeaks
set_option linter.unusedSimpArgs false
set_option linter.unusedVariables false
namespace Go.Proofs.YtafopoacnngaeaaGreatDoor.subst
open Go.RowKit Go.Proofs.YtafopoacnngaeaaGreatDoor.errs Go.Proofs.YtafopoacnngaeaaGreatDoor.rows Go.Proofs.YtafopoacnngaeaaGreatDoor.utf Go.Proofs.YtafopoacnngaeaaGreatDoor.glref Go.Proofs.YtafopoacnngaeaaGreatDoor.gmath Go.Proofs.YtafopoacnngaeaaGreatDoor.chars Go.Proofs.YtafopoacnngaeaaGreatDoor.marks

/-- An error with its number, its place, and the number of the one that it came from. -/
def FailedOf (r : Int × Int × Int) (w : World) (e : Ending) (w' : World) : Prop :=
  ∃ b inner, e = .returned (.iface 58 (.pointer (some ⟨b, 0, none⟩))) ∧ Hid (FaultAt w' (.iface 58 (.pointer (some ⟨b, 0, none⟩))) r.1 r.2.1 inner ∧ (∃ ks, Chain w' ks (.iface 58 (.pointer (some ⟨b, 0, none⟩))) ∧ (r.2.2 = 0 ∨ tells ks r.2.2 = true)) ∧ Below w.heap.size w w')
def VarOut (r : Int × Int × Int) (w : World) (e : Ending) (w' : World) : Prop :=
  if r.1 = 0 then e = .returned .nilIface ∧ Below w.heap.size w w' else FailedOf r w e w'
theorem varOut_nil (w w' : World) (r : Int × Int × Int) (hr : r.1 = 0) (hb : Below w.heap.size w w') : VarOut r w (.returned .nilIface) w' := by
  unfold VarOut
  rw [if_pos hr]
  exact ⟨rfl, hb⟩
theorem varOut_new (w w1 : World) (hb : Below w.heap.size w w1) (k a : Int) (hk : k ≠ 0) : VarOut (k, a, 0) w (.returned (.iface 58 (.pointer (some ⟨w1.heap.size, 0, none⟩)))) (w1.alloc (.cells #[.int .i64 k, .int .i64 a, .nilIface] 62)) := by
  unfold VarOut
  rw [if_neg hk]
  have hf := fault_new w1 k a .nilIface
  exact ⟨_, .nilIface, rfl, hf, ⟨_, hf.chain .nil, .inl rfl⟩, hb.alloc hb.size _⟩
theorem varOut_wrap (w w1 : World) (hb : Below w.heap.size w w1) (k a k2 a2 : Int) (p : Value) (hk : k ≠ 0) (hp : FaultAt w1 (.iface 58 p) k2 a2 .nilIface) : VarOut (k, a, k2) w (.returned (.iface 58 (.pointer (some ⟨w1.heap.size, 0, none⟩)))) (w1.alloc (.cells #[.int .i64 k, .int .i64 a, .iface 58 p] 62)) := by
  unfold VarOut
  rw [if_neg hk]
  have hf := fault_new w1 k a (.iface 58 p)
  have hp' := hp.below ((Below.refl w1.heap.size w1).alloc (Nat.le_refl _) (.cells #[.int .i64 k, .int .i64 a, .iface 58 p] 62)) (Nat.le_refl _)
  refine ⟨_, _, rfl, hf, ⟨[k, k2], hf.chain (hp'.chain .nil), .inr ?_⟩, hb.alloc hb.size _⟩
  unfold tells
  simp

/-- What the walks ask of the heap. -/
structure VIn (w : World) (a : Option Addr) (n cap : Nat) (nm : ByteArray) (vs : List ByteArray) : Prop where
  seat : Seat w
  vals : StrsIn w (.slice a n cap) vs
  small : ∀ v ∈ vs, v.size ≤ 1000000
  name : nm.size ≤ 1000000
theorem VIn.below {w w' : World} {a : Option Addr} {n cap : Nat} {nm : ByteArray} {vs : List ByteArray} (h : VIn w a n cap nm vs) (hb : Keeps w w') : VIn w' a n cap nm vs := ⟨h.seat.below hb, h.vals.below hb, h.small, h.name⟩

set_option maxRecDepth 100000 in
set_option maxHeartbeats 8000000 in
theorem checkVar_any (a : Option Addr) (n cap : Nat) (nm : ByteArray) (vs : List ByteArray) (w : World) (h : VIn w a n cap nm vs) :
    Calls Tryz.prog 17 #[.agg #[.string nm, .slice a n cap]] w fun e w' => VarOut (varOf nm vs) w e w' := by
  obtain ⟨W0, HW0⟩ : ∃ W, Hid (w.alloc (.cells #[.string nm, .slice a n cap] 36) = W) := ⟨_, rfl⟩
  have HB : Hid (Below w.heap.size w W0 ∧ W0.heap[w.heap.size]? = some (.cells #[.string nm, .slice a n cap] 36 (0, 0)) ∧ W0.heap.size = w.heap.size + 1) := by
    rw [← HW0.out]
    exact ⟨(Below.refl _ _).alloc (Nat.le_refl _) _, heap_alloc_new w _, by simp⟩
  have H0 : Hid (VIn W0 a n cap nm vs) := h.below HB.out.1
  have c0 : W0.cell? ⟨w.heap.size, 0, none⟩ = some (.string nm) := cell_of_heap HB.out.2.1 rfl
  have c1 : W0.cell? ⟨w.heap.size, 1, none⟩ = some (.slice a n cap) := cell_of_heap HB.out.2.1 rfl
  have NA := named_any nm h.name W0 H0.out.seat.1
  have HN : Hid (n = vs.length) := h.vals.at.1
  have h2 := h.vals.at.2.1
  have h3 := h.vals.at.2.2.1
  have HH := Lib.hid h
  have FA := Lib.hid (fun (k a : Int) (hk : k ≠ 0) (w1 : World) (hb : Keeps W0 w1) => (fail_any k a w1).mono (R' := fun e w' => VarOut (k, a, 0) w e w') (fun e w' ⟨h1, h2⟩ => by subst h1 h2; exact varOut_new w w1 (HB.out.1.trans (hb.mono HB.out.1.size)) k a hk))
  have OP : Hid (∀ (r : Int × Int × Int) (e : Ending) (w' : World), r.1 ≠ 0 → VarOut r w e w' → ∃ b, e = .returned (.iface 58 (.pointer (some ⟨b, 0, none⟩))) ∧ Hid (VarOut r w (.returned (.iface 58 (.pointer (some ⟨b, 0, none⟩)))) w')) := fun r e w' hr q => by
    have q' := q
    unfold VarOut at q'
    rw [if_neg hr] at q'
    obtain ⟨b, inner, rfl, -⟩ := q'
    exact ⟨b, rfl, q⟩
  have CC : Hid (∀ V, Keeps W0 V → V.cell? ⟨w.heap.size, 0, none⟩ = some (.string nm) ∧ V.cell? ⟨w.heap.size, 1, none⟩ = some (.slice a n cap)) := fun V hV =>
    ⟨(hV.cell (p := ⟨w.heap.size, 0, none⟩) (lt_of_cell c0)).trans c0, (hV.cell (p := ⟨w.heap.size, 1, none⟩) (lt_of_cell c1)).trans c1⟩
  clear h
  unfold varOf badName
  cases hn : nameOk nm with
  | false =>
    rw [hn] at NA
    rw [show (!false || isOwn nm.data.toList) = true from rfl, if_pos rfl]
    clear hn
    go_enter Tryz.func17, Tryz.ntmps17
    go_wp2_with fail
    rw [HW0.out]
    go_wp2_with fail
    refine NA.mono ?_; rintro e w1 ⟨rfl, hb⟩
    have F := FA.out 30 0 (by decide) w1 hb
    clear hb NA
    go_wp2_with fail
    refine (F.mono (fun e w' q => OP.out _ e w' (by first | decide | exact (show (11 : Int) ≠ 0 by decide)) q)).mono ?_; rintro e w2 ⟨b, rfl, q⟩
    clear F
    go_wp2_with fail
    go_ret
    exact q.out
  | true =>
    rw [hn] at NA
    rw [show (!true || isOwn nm.data.toList) = isOwn nm.data.toList from rfl]
    have OW := Lib.hid (fun (w' : World) (hc : Keeps W0 w') => (own_any nm.data.toList w' (H0.out.seat.2.2.below hc (Nat.le_refl _)) : Calls Tryz.prog 20 #[.string nm] w' fun e w'' => e = .returned (.bool (isOwn nm.data.toList)) ∧ Below w'.heap.size w' w''))
    clear hn
    cases ho : isOwn nm.data.toList with
    | true =>
      rw [ho] at OW
      rw [if_pos rfl]
      clear ho
      go_enter Tryz.func17, Tryz.ntmps17
      go_wp2_with fail
      rw [HW0.out]
      go_wp2_with fail
      refine NA.mono ?_; rintro e w1 ⟨rfl, hb⟩
      have O := OW.out w1 hb
      obtain ⟨d0, d1⟩ := CC.out w1 hb
      have K1 : Hid (Keeps W0 w1) := hb
      clear hb NA c0 c1
      go_wp2_with fail
      refine O.mono ?_; rintro e w2 ⟨rfl, hb⟩
      have F := FA.out 30 0 (by decide) w2 (Keeps.step K1.out hb)
      clear hb O d0 d1
      go_wp2_with fail
      refine (F.mono (fun e w' q => OP.out _ e w' (by first | decide | exact (show (11 : Int) ≠ 0 by decide)) q)).mono ?_; rintro e w3 ⟨b, rfl, q⟩
      clear F
      go_wp2_with fail
      go_ret
      exact q.out
    | false =>
      rw [ho] at OW
      rw [if_neg (by decide)]
      clear ho
      by_cases hbig : 256 < vs.length
      · rw [if_pos hbig]
        have z0 : (256 : Int) < (n : Int) := by have := HN.out; omega
        clear hbig
        go_enter Tryz.func17, Tryz.ntmps17
        go_wp2_with fail
        rw [HW0.out]
        go_wp2_with fail
        refine NA.mono ?_; rintro e w1 ⟨rfl, hb⟩
        have O := OW.out w1 hb
        obtain ⟨d0, d1⟩ := CC.out w1 hb
        have K1 : Hid (Keeps W0 w1) := hb
        clear hb NA c0 c1
        go_wp2_with fail
        refine O.mono ?_; rintro e w2 ⟨rfl, hb⟩
        have K2 : Hid (Keeps W0 w2) := Keeps.step K1.out hb
        have F := FA.out 15 256 (by decide) w2 K2.out
        clear hb O d0 d1
        obtain ⟨d0, d1⟩ := CC.out w2 K2.out
        go_wp2_with fail
        refine (F.mono (fun e w' q => OP.out _ e w' (by first | decide | exact (show (11 : Int) ≠ 0 by decide)) q)).mono ?_; rintro e w3 ⟨b, rfl, q⟩
        clear F
        go_wp2_with fail
        go_ret
        exact q.out
      · rw [if_neg hbig]
        have z0 : (n : Int) ≤ 256 := by have := HN.out; omega
        clear hbig
        obtain ⟨res, hres⟩ : ∃ res, Hid (varFrom 0 vs = res) := ⟨_, rfl⟩
        rw [hres.out]
        go_enter Tryz.func17, Tryz.ntmps17
        go_wp2_with fail
        rw [HW0.out]
        go_wp2_with fail
        refine NA.mono ?_; rintro e w1 ⟨rfl, hb⟩
        have O := OW.out w1 hb
        obtain ⟨d0, d1⟩ := CC.out w1 hb
        have K1 : Hid (Keeps W0 w1) := hb
        clear hb NA c0 c1
        go_wp2_with fail
        refine O.mono ?_; rintro e w2 ⟨rfl, hb⟩
        have K2 : Hid (Keeps W0 w2) := Keeps.step K1.out hb
        clear hb O d0 d1
        obtain ⟨d0, d1⟩ := CC.out w2 K2.out
        go_wp2_with fail
        clear d0 d1
        go_loopg [24] n (fun g t wr => ∃ k : Nat, t = .int .i64 k ∧ g + k = n ∧ Hid (varFrom k (vs.drop k) = res ∧ Keeps W0 wr))
        case atStart => exact ⟨0, rfl, rfl, hres.out, K2.out⟩
        case round =>
          clear K2 hres
          obtain ⟨k, rfl, hg, hA⟩ := hrel
          have y0 : (0 : Int) ≤ (k : Int) := by omega
          by_cases hlt : k < n
          · have y1 : (k : Int) < (n : Int) := by omega
            have HV := H0.out.below hA.out.2
            obtain ⟨b, o, rfl, c0⟩ := HV.vals.at.2.2.2 k hlt
            have hk : k < vs.length := by rw [← HN.out]; exact hlt
            have hsz : (vs.getD k ⟨#[]⟩).size ≤ 1000000 := HV.small _ (by rw [List.getD_eq_getElem?_getD, List.getElem?_eq_getElem hk]; exact List.getElem_mem _)
            have hd := hA.out.1
            rw [drop_val vs k hk] at hd
            unfold varFrom at hd
            have D := dollar_any (vs.getD k ⟨#[]⟩) hsz wr HV.seat.2.1
            have hTw : Tabs wr := HV.seat.1
            have C := check_any
            generalize vs.getD k ⟨#[]⟩ = s at *
            cases hq : s.data.toList.contains 36 with
            | true =>
              rw [hq] at hd D
              rw [if_pos rfl] at hd
              have F := FA.out 11 k (by decide) wr hA.out.2
              have HR : Hid (res = (11, (k : Int), 0)) := hd.symm
              clear hq hd hTw HV C
              go_wp2_with fail
              refine D.mono ?_; rintro e w3 ⟨rfl, rfl⟩
              clear D
              go_wp2_with fail
              refine (F.mono (fun e w' q => OP.out _ e w' (by first | decide | exact (show (11 : Int) ≠ 0 by decide)) q)).mono ?_; rintro e w4 ⟨b, rfl, q⟩
              clear F
              go_wp2_with fail
              go_ret
              rw [HR.out]
              exact q.out
            | false =>
              rw [hq] at hd D
              rw [if_neg (by decide)] at hd
              cases hok : okP s with
              | true =>
                have C := check_ok hok hsz wr hTw
                rw [hok, if_pos rfl] at hd
                have ND : Hid (varFrom (k + 1) (vs.drop (k + 1)) = res) := hd
                clear hq hd hTw HV hok
                go_wp2_with fail
                refine D.mono ?_; rintro e w3 ⟨rfl, rfl⟩
                clear D
                go_wp2_with fail
                refine C.mono ?_; rintro e w4 ⟨rfl, hb⟩
                have K4 : Hid (varFrom (k + 1) (vs.drop (k + 1)) = res ∧ Keeps W0 w4) := ⟨ND.out, Keeps.step hA.out.2 hb⟩
                clear hb C c0
                go_wp2_with fail
                go_roundg (gk - 1)
                case measure => omega
                case rel => exact ⟨k + 1, by go_num, by omega, K4⟩
              | false =>
                have C := check_wrong hok hsz wr hTw
                rw [hok, if_neg (by decide)] at hd
                have HR : Hid (res = (11, (k : Int), (checkOf s).1)) := hd.symm
                clear hq hd hTw HV hok
                go_wp2_with fail
                refine D.mono ?_; rintro e w3 ⟨rfl, rfl⟩
                clear D
                go_wp2_with fail
                refine C.mono ?_; rintro e w4 ⟨bb, rfl, hb⟩
                have F : Calls Tryz.prog 40 #[.int .i64 11, .int .i64 k, .iface 58 (.pointer (some ⟨bb, 0, none⟩))] w4 fun e w' => VarOut (11, (k : Int), (checkOf s).1) w e w' := (wrap_any 11 k _ w4).mono fun e w' ⟨h1, h2⟩ => by
                  subst h1 h2
                  exact varOut_wrap w w4 (HB.out.1.trans ((Keeps.step hA.out.2 hb.out.2).mono HB.out.1.size)) 11 k _ _ _ (by decide) hb.out.1
                clear hb C c0
                go_wp2_with fail
                refine (F.mono (fun e w' q => OP.out _ e w' (by first | decide | exact (show (11 : Int) ≠ 0 by decide)) q)).mono ?_; rintro e w5 ⟨b, rfl, q⟩
                clear F
                go_wp2_with fail
                go_ret
                rw [HR.out]
                exact q.out
          · obtain rfl : k = n := by omega
            have y1 : ¬ (k : Int) < (k : Int) := by omega
            have HR : Hid (res = (0, 0, 0)) := by
              have hd := hA.out.1
              rw [List.drop_eq_nil_of_le (by rw [← HN.out]; exact Nat.le_refl _)] at hd
              exact hd.symm
            have KE : Hid (Below w.heap.size w wr) := HB.out.1.trans (hA.out.2.mono HB.out.1.size)
            clear hA
            go_wp2_with fail
            go_ret
            rw [HR.out]
            exact varOut_nil w _ _ rfl KE.out
end Go.Proofs.YtafopoacnngaeaaGreatDoor.subst
