/- pick.Words: an answer in words. -/
import Derived.Test.YtmgdkdohadaknaaDoorPkBuild
import Derived.Test.YtmgdkdohadaknaaDoorPkRow
import Derived.Deep.LoopGhost
import Derived.Deep.RegionWith
import Derived.IntWalk
set_option linter.unusedSimpArgs false
set_option linter.unusedVariables false
namespace Go.Proofs.YtmgdkdohadaknaaDoor.pick
open Go.RowKit Go.Proofs.YtmgdkdohadaknaaDoor.errs Go.Proofs.YtmgdkdohadaknaaDoor.wire Go.Proofs.YtmgdkdohadaknaaDoor.build

/-- The words of the kinds and of the reasons, as the program's text lays them. -/
def kindTab : List ByteArray := [⟨#[]⟩, ⟨#[114, 101, 106, 101, 99, 116]⟩, ⟨#[98, 114, 111, 119, 115, 101, 114]⟩, ⟨#[111, 112, 101, 110]⟩, ⟨#[99, 104, 111, 111, 115, 101]⟩]
def reasonTab : List ByteArray := [⟨#[]⟩, ⟨#[117, 114, 108]⟩, ⟨#[117, 115, 101, 114]⟩, ⟨#[104, 111, 115, 116]⟩, ⟨#[110, 111, 98, 111, 100, 121]⟩, ⟨#[117, 110, 107, 110, 111, 119, 110]⟩, ⟨#[114, 117, 108, 101, 115]⟩, ⟨#[111, 102, 102]⟩, ⟨#[111, 110, 101]⟩, ⟨#[115, 101, 118, 101, 114, 97, 108]⟩]
def KTab (w : World) : Prop := ∀ i, i < 5 → w.cell? ⟨0, i, none⟩ = some (.string (kindTab.getD i ⟨#[]⟩))
def RTab (w : World) : Prop := ∀ i, i < 10 → w.cell? ⟨1, i, none⟩ = some (.string (reasonTab.getD i ⟨#[]⟩))
structure Tabs (w : World) : Prop where
  k : KTab w
  r : RTab w
theorem Tabs.below {w w' : World} (h : Tabs w) (hb : Keeps w w') : Tabs w' :=
  ⟨fun i hi => (hb.cell (p := ⟨_, i, none⟩) (lt_of_cell (h.k i hi))).trans (h.k i hi), fun i hi => (hb.cell (p := ⟨_, i, none⟩) (lt_of_cell (h.r i hi))).trans (h.r i hi)⟩

def kindT (k : Int) : ByteArray := if k < 1 ∨ 4 < k then ⟨#[63]⟩ else kindTab.getD k.toNat ⟨#[]⟩
def reasonT (k : Int) : ByteArray := if k < 1 ∨ 9 < k then ⟨#[63]⟩ else reasonTab.getD k.toNat ⟨#[]⟩
theorem kind_any (k : Int) (w : World) (h : KTab w) :
    Calls Tryd.prog 26 #[.int .i64 k] w fun e w' => e = .returned (.string (kindT k)) ∧ w = w' := by
  unfold kindT
  by_cases h1 : k < 1
  · rw [if_pos (.inl h1)]
    go_enter Tryd.func26, Tryd.ntmps26
    go_wp2_with fail
    go_ret
    exact ⟨rfl, rfl⟩
  · by_cases h2 : 4 < k
    · rw [if_pos (.inr h2)]
      go_enter Tryd.func26, Tryd.ntmps26
      go_wp2_with fail
      go_ret
      exact ⟨rfl, rfl⟩
    · rw [if_neg (by omega)]
      have c0 := h k.toNat (by omega)
      generalize kindTab.getD k.toNat ⟨#[]⟩ = s at *
      obtain ⟨n, rfl⟩ : ∃ n : Nat, k = n := ⟨k.toNat, by omega⟩
      have y0 : (0 : Int) ≤ (n : Int) := by omega
      have y1 : (n : Int) < 5 := by omega
      rw [Int.toNat_natCast] at c0
      clear h
      go_enter Tryd.func26, Tryd.ntmps26
      go_wp2_with fail
      go_ret
      exact ⟨rfl, rfl⟩
theorem reason_any (k : Int) (w : World) (h : RTab w) :
    Calls Tryd.prog 27 #[.int .i64 k] w fun e w' => e = .returned (.string (reasonT k)) ∧ w = w' := by
  unfold reasonT
  by_cases h1 : k < 1
  · rw [if_pos (.inl h1)]
    go_enter Tryd.func27, Tryd.ntmps27
    go_wp2_with fail
    go_ret
    exact ⟨rfl, rfl⟩
  · by_cases h2 : 9 < k
    · rw [if_pos (.inr h2)]
      go_enter Tryd.func27, Tryd.ntmps27
      go_wp2_with fail
      go_ret
      exact ⟨rfl, rfl⟩
    · rw [if_neg (by omega)]
      have c0 := h k.toNat (by omega)
      generalize reasonTab.getD k.toNat ⟨#[]⟩ = s at *
      obtain ⟨n, rfl⟩ : ∃ n : Nat, k = n := ⟨k.toNat, by omega⟩
      have y0 : (0 : Int) ≤ (n : Int) := by omega
      have y1 : (n : Int) < 10 := by omega
      rw [Int.toNat_natCast] at c0
      clear h
      go_enter Tryd.func27, Tryd.ntmps27
      go_wp2_with fail
      go_ret
      exact ⟨rfl, rfl⟩

/-- The apps in words. -/
def tailL (l : List ByteArray) : List UInt8 := l.flatMap fun s => 32 :: s.data.toList
def headB (x : An) : ByteArray := (kindT x.kind ++ ⟨#[58]⟩) ++ reasonT x.why
def wordsL (x : An) : List UInt8 := (headB x).data.toList ++ tailL x.apps
def wordsT (x : An) : ByteArray := ⟨(wordsL x).toArray⟩
theorem tailL_append (a b : List ByteArray) : tailL (a ++ b) = tailL a ++ tailL b := List.flatMap_append
theorem tailL_one (s : ByteArray) : tailL [s] = 32 :: s.data.toList := by simp [tailL]
theorem tailL_take (l : List ByteArray) (i : Nat) (h : i < l.length) : tailL (l.take (i + 1)) = tailL (l.take i) ++ (32 :: (l.getD i ⟨#[]⟩).data.toList) := by
  rw [← tailL_one, ← tailL_append]
  congr 1
  rw [List.take_add_one, List.getD_eq_getElem?_getD, List.getElem?_eq_getElem h]; rfl
theorem tailL_le (l : List ByteArray) (i : Nat) : (tailL (l.take i)).length ≤ (tailL l).length := by
  have := congrArg tailL (List.take_append_drop i l)
  rw [tailL_append] at this
  rw [← this, List.length_append]
  omega

theorem kindT_size (k : Int) : (kindT k).size ≤ 7 := by
  unfold kindT
  split
  · decide
  · rename_i h
    rcases (show k = 1 ∨ k = 2 ∨ k = 3 ∨ k = 4 by omega) with rfl | rfl | rfl | rfl <;> decide
theorem reasonT_size (k : Int) : (reasonT k).size ≤ 7 := by
  unfold reasonT
  split
  · decide
  · rename_i h
    rcases (show k = 1 ∨ k = 2 ∨ k = 3 ∨ k = 4 ∨ k = 5 ∨ k = 6 ∨ k = 7 ∨ k = 8 ∨ k = 9 by omega) with rfl | rfl | rfl | rfl | rfl | rfl | rfl | rfl | rfl <;> decide
theorem size58 : (⟨#[58]⟩ : ByteArray).size = 1 := rfl

set_option maxRecDepth 100000 in
set_option maxHeartbeats 2000000 in
theorem words_any (x : An) (hx : (wordsL x).length ≤ 140737488355328) (v : Value) (w : World) (h : AnsV w v x) (hT : Tabs w) :
    Calls Tryd.prog 16 #[v] w fun e w' => e = .returned (.string (wordsT x)) ∧ Below w.heap.size w w' := by
  obtain ⟨s0, rfl, hs0⟩ := h
  obtain ⟨a, cap, rfl⟩ := hs0.form
  obtain ⟨W1, hW1⟩ : ∃ W1, w.alloc (.cells #[.int .i64 x.kind, .slice a x.apps.length cap, .int .i64 x.why] 29) = W1 := ⟨_, rfl⟩
  obtain ⟨W2, hW2⟩ : ∃ W2, W1.alloc (.cells #[.pointer none, .slice none 0 0] 49) = W2 := ⟨_, rfl⟩
  have e1 : W1.heap.size = w.heap.size + 1 := by rw [← hW1]; simp
  have b1 : Below w.heap.size w W1 := by rw [← hW1]; exact (Below.refl _ w).alloc (Nat.le_refl _) _
  have b2 : Below W1.heap.size W1 W2 := by rw [← hW2]; exact (Below.refl _ W1).alloc (Nat.le_refl _) _
  have e2 : W1.heap.size ≤ W2.heap.size := b2.size
  have hBx : Blk W1 w.heap.size #[.int .i64 x.kind, .slice a x.apps.length cap, .int .i64 x.why] 29 := by rw [← hW1]; exact blk_new w _ _
  have hBd : Bld W1.heap.size W1.heap.size [] W2 := by rw [← hW2]; exact fresh_builder (Below.refl W1.heap.size W1) (Nat.le_refl _)
  have hb12 := b1.trans (b2.mono b1.size)
  -- what stands behind W1
  have old : ∀ W', Below W1.heap.size W1 W' → Tabs W' ∧ StrsIn W' (.slice a x.apps.length cap) x.apps ∧ Blk W' w.heap.size #[.int .i64 x.kind, .slice a x.apps.length cap, .int .i64 x.why] 29 := fun W' h' =>
    ⟨hT.below (b1.trans (h'.mono b1.size)), hs0.below (b1.trans (h'.mono b1.size)), hBx.below h' (by omega)⟩
  obtain ⟨b, hb⟩ : ∃ b, w.heap.size + 1 = b := ⟨_, rfl⟩
  rw [hb] at e1
  rw [e1] at b2 e2 hBd old
  have HO := Lib.hid old
  have HW1 := Lib.hid b1
  have HE := Lib.hid (And.intro e1 e2)
  have HBD := Lib.hid hBd
  have HB2 := Lib.hid b2
  have HWW := Lib.hid (And.intro hW1 hW2)
  have HBB := Lib.hid hb
  clear hs0 hT hBx hBd b1 b2 old hb12 hW1 hW2 e1 e2 hb
  obtain ⟨res, hres⟩ : ∃ res, Hid (wordsL x = res) := ⟨_, rfl⟩
  have hwt : wordsT x = ⟨res.toArray⟩ := by unfold wordsT; rw [hres.out]
  rw [hwt]
  rw [hres.out] at hx
  have HX := Lib.hid hx
  have hres : Hid ((headB x).data.toList ++ tailL x.apps = res) := hres.out
  clear hwt hx
  obtain ⟨n, hnn⟩ : ∃ n, Hid (x.apps.length = n) := ⟨_, rfl⟩
  rw [hnn.out] at HWW HO ⊢
  have hn := (HO.out W1 (Below.refl _ _)).2.1.at
  have hnc : n ≤ 9223372036854775807 := Nat.le_trans hn.2.1 hn.2.2.1
  have CK := fun w h => kind_any x.kind w h
  have CR := fun w h => reason_any x.why w h
  have q1 := kindT_size x.kind
  have q2 := reasonT_size x.why
  have HD : Hid ((kindT x.kind ++ (⟨#[58]⟩ : ByteArray)) ++ reasonT x.why = headB x ∧ (headB x).size ≤ 15) := ⟨rfl, by unfold headB; rw [ByteArray.size_append, ByteArray.size_append, size58]; omega⟩
  have hsz : ¬ 9223372036854775807 < (kindT x.kind).size + (⟨#[58]⟩ : ByteArray).size := by rw [size58]; omega
  have hsz2 : ¬ 9223372036854775807 < (kindT x.kind ++ (⟨#[58]⟩ : ByteArray)).size + (reasonT x.why).size := by rw [ByteArray.size_append, size58]; omega
  have hsz3 : ¬ 9223372036854775807 < (kindT x.kind).size + 1 + (reasonT x.why).size := by omega
  have hsz4 : ¬ 9223372036854775807 < (kindT x.kind).size + 1 := by omega
  have TK := Lib.hid (tailL_take x.apps)
  have TL := Lib.hid (tailL_le x.apps)
  clear q1 q2 hn
  generalize headB x = hd at *
  generalize x.apps = l at *
  generalize x.kind = kk at *
  generalize x.why = rr at *
  generalize kindT kk = K at *
  generalize reasonT rr = R at *
  have PU := fun acc z W (hB : Bld b b acc W) h1 h2 => puts_any b b acc z W hB h1 h2
  have r0 := HO.out W2.drew HB2.out.drew
  have k0 := r0.2.2.get 0
  have k2 := r0.2.2.get 2
  simp only [List.getElem?_toArray, List.getElem?_cons_zero, List.getElem?_cons_succ] at k0 k2
  have CK := CK W2.drew r0.1.k
  have CR := CR W2.drew r0.1.r
  have hBD2 : Hid (Bld b b [] W2.drew) := bld_below HBD.out (Below.refl _ _).drew
  have HN15 : Hid (([] : List UInt8).length + hd.size ≤ 140737488355328 ∧ b ≤ W2.drew.heap.size) := ⟨by have := HD.out.2; show 0 + _ ≤ _; omega, by have := HE.out.2; show b ≤ W2.heap.size; exact this⟩
  clear r0
  go_enter Tryd.func16, Tryd.ntmps16
  go_wp2_with fail
  rw [HWW.out.1, HWW.out.2, HBB.out]
  go_region_with (first
    | (go_at_call 26; refine CK.mono ?_; rintro e w5 ⟨rfl, rfl⟩)
    | (go_at_call 27; refine CR.mono ?_; rintro e w5 ⟨rfl, rfl⟩)
    | (go_at_call 25; rw [HD.out.1]; refine (PU [] hd _ hBD2.out HN15.out.1 HN15.out.2).mono ?_; rintro e w7 ⟨kk, rfl, h7, h8⟩))
  all_goals
    have r1 := HO.out w7 (HB2.out.drew.trans h8)
    have k1 := r1.2.2.get 1
    simp only [List.getElem?_toArray, List.getElem?_cons_zero, List.getElem?_cons_succ] at k1
    have D0 : Hid (Bld b b (hd.data.toList ++ tailL (l.take 0)) w7 ∧ Below b W1 w7) := ⟨by rw [show tailL (l.take 0) = [] by rfl, List.append_nil]; exact h7, HB2.out.drew.trans h8⟩
    clear h7 h8 k0 k2 r1 CK CR hBD2 HN15 hsz hsz2 hsz3 hsz4
    go_wp2_with fail
    go_loopg [5, 18] n (fun g t5 t18 wr => ∃ i : Nat, t18 = .int .i64 (i : Int) ∧ i ≤ n ∧ Hid (i + g = n) ∧ Hid (Bld b b (hd.data.toList ++ tailL (l.take i)) wr ∧ Below b W1 wr))
    case atStart => exact ⟨0, rfl, Nat.zero_le _, Nat.zero_add _, D0.out⟩
    case round =>
      clear D0 k1
      obtain ⟨i, rfl, hi, hg, hD⟩ := hrel
      by_cases hlt : i < n
      · have y0 : (0 : Int) ≤ (i : Int) := by omega
        have y1 : (i : Int) < (n : Int) := by omega
        obtain ⟨b1, o1, rfl, c0⟩ := ((HO.out wr hD.out.2).2.1.at).2.2.2 i hlt
        have HT := Lib.hid (TK.out i (by rw [hnn.out]; exact hlt))
        have hsl : Hid ((hd.data.toList ++ tailL (l.take (i + 1))).length ≤ 140737488355328) := by
          have h1 := HX.out
          have h2 := TL.out (i + 1)
          rw [← hres.out, List.length_append] at h1
          show _ ≤ _
          rw [List.length_append]
          omega
        rw [HT.out, ← List.append_assoc] at hsl
        generalize l.getD i ⟨#[]⟩ = s at *
        have hsl : Hid ((hd.data.toList ++ tailL (l.take i)).length + (1 + s.size) ≤ 140737488355328) := by
          have := hsl.out
          rw [List.length_append, List.length_cons] at this
          have e : s.data.toList.length = s.size := Array.length_toList
          show _ ≤ _
          omega
        have hbw : b ≤ wr.heap.size := Nat.le_trans (by have := HE.out.1; omega) hD.out.2.size
        have P1 := PU (hd.data.toList ++ tailL (l.take i)) ⟨#[32]⟩ wr hD.out.1 (by have := hsl.out; show _ + 1 ≤ _; omega) hbw
        have P2 := fun W hB hW => PU (hd.data.toList ++ tailL (l.take i) ++ [32]) s W hB (by have := hsl.out; rw [List.length_append]; show _ + 1 + _ ≤ _; omega) hW
        go_wp2_with fail
        refine P1.mono ?_; rintro e w8 ⟨z1, rfl, h1, h2⟩
        have P2 := P2 w8 h1 (Nat.le_trans hbw h2.size)
        have H1 := Lib.hid (hD.out.2.trans h2)
        clear h1 h2 P1 hD
        go_wp2_with fail
        refine P2.mono ?_; rintro e w9 ⟨z2, rfl, h1, h2⟩
        have NX : Hid (Bld b b (hd.data.toList ++ tailL (l.take (i + 1))) w9 ∧ Below b W1 w9) := by
          refine ⟨?_, H1.out.trans h2⟩
          rw [HT.out]
          rw [List.append_assoc, List.append_assoc] at h1
          exact h1
        clear h1 h2 H1 P2
        go_wp2_with fail
        go_roundg (gk - 1)
        case measure => have := hg.out; omega
        case rel => exact ⟨i + 1, by go_num, by omega, by have := hg.out; show _ = _; omega, NX.out⟩
      · obtain rfl : i = n := by omega
        have y1 : ¬ (i : Int) < (i : Int) := by omega
        have hbw : b ≤ wr.heap.size := Nat.le_trans (by have := HE.out.1; omega) hD.out.2.size
        have S4 := Tryd.Builder_String_any_f b b _ wr hD.out.1 hbw
        rw [List.take_of_length_le (by rw [hnn.out]; exact Nat.le_refl _), hres.out] at S4
        go_wp2_with fail
        refine S4.mono ?_; rintro e w5 ⟨rfl, hb5⟩
        have A5 : Hid (Below w.heap.size w w5) := HW1.out.trans ((hD.out.2.trans hb5.2).mono (by have := HBB.out; omega))
        clear hb5
        go_wp2_with fail
        go_ret
        exact ⟨rfl, A5.out⟩
end Go.Proofs.YtmgdkdohadaknaaDoor.pick
