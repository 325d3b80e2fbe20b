/- media.lead, media.cutToken; strings.CutPrefix, strings.TrimLeft, strings.Clone at texts of bytes. -/
import Derived.Test.YtelofhplpeeplaaDoorMdRune
import Derived.Shelf.Strings.SlTrimAscii
import Derived.Laws.DeepStrings4
import Derived.Laws.Strings3
set_option linter.unusedSimpArgs false
set_option linter.unusedVariables false
namespace Go.Proofs.YtelofhplpeeplaaDoor.media
open Go.RowKit Go.Proofs.YtelofhplpeeplaaDoor.errs

set_option maxRecDepth 100000 in
set_option maxHeartbeats 1000000 in
theorem lead_any (l : List UInt8) (hl : l.length ≤ 1000000) (w : World) :
    Calls Tryd.prog 78 #[.string (T l)] w fun e w' => e = .returned (.int .i64 (spanN inTok l)) ∧ Below w.heap.size w w' := by
  obtain ⟨n, hn⟩ : ∃ n, Hid (spanN inTok l = n) := ⟨_, rfl⟩
  rw [hn.out]
  have SA := stands_any
  have hsz : (T l).size = l.length := rfl
  obtain ⟨m, hm⟩ : ∃ m, Hid (l.length = m) := ⟨_, rfl⟩
  rw [hm.out] at hl hsz
  have SZ := Lib.hid hsz
  go_enter Tryd.func78, Tryd.ntmps78
  go_wp2_with fail
  have hit0 : Aside (Itr (w.iter (T l) 0) w.heap.size (T l) 0) := World.iter_heap w (T l) 0
  have hbw : Aside (Below w.heap.size w (w.iter (T l) 0)) := (Below.refl _ _).alloc (Nat.le_refl _) _
  have LK : Aside (w.heap.size ≤ w.heap.size) := Nat.le_refl _
  generalize w.iter (T l) 0 = w2 at *
  generalize hkk : w.heap.size = k0 at *
  have HKK := Lib.hid hkk
  clear hkk
  go_loopg [] m (fun g wr => ∃ pos : Nat, g + pos = m ∧ Hid (pos + spanN inTok (l.drop pos) = n) ∧ Aside (Itr wr k0 (T l) pos ∧ Below k0 w wr))
  case atStart => exact ⟨0, rfl, by rw [show spanN inTok (l.drop 0) = spanN inTok l from rfl]; show 0 + _ = _; rw [Nat.zero_add]; exact hn.out, hit0.out, hbw.out⟩
  case round =>
    obtain ⟨pos, hg, hd, hA⟩ := hrel
    by_cases hlt : pos < m
    · have hps : pos < (T l).size := by rw [SZ.out]; exact hlt
      have hnx := fun ty => Lib.run_next_any_at (P := Tryd.prog) wr k0 (T l) pos ty hA.out.1 hps
      have NX : Aside (Itr (wr.iterAt k0 (T l) (pos + (Utf8.decode (T l) pos).2)) k0 (T l) (pos + (Utf8.decode (T l) pos).2) ∧ Below k0 w (wr.iterAt k0 (T l) (pos + (Utf8.decode (T l) pos).2))) := ⟨Lib.iterAt_heap wr k0 (T l) pos _ hA.out.1, Lib.below_iterAt hA.out.2 (Nat.le_refl _) (T l) _⟩
      have LB : Aside (k0 ≤ (wr.iterAt k0 (T l) (pos + (Utf8.decode (T l) pos).2)).heap.size) := by
        show _ ≤ _
        rw [Lib.iterAt_size]
        exact Nat.le_of_lt (Array.getElem?_eq_some_iff.1 hA.out.1).1
      have hdr : l.drop pos = (T l).get! pos :: l.drop (pos + 1) := bytes_drop hps
      have F : inTokC (Utf8.decode (T l) pos).1 = inTok ((T l).get! pos) ∧ (inTok ((T l).get! pos) = true → (Utf8.decode (T l) pos).2 = 1) := by
        by_cases h : ((T l).get! pos).toNat < 128
        · rw [decode_low _ _ h]
          exact ⟨inTokC_byte _ h, fun _ => rfl⟩
        · rw [inTok_big _ h]
          exact ⟨inTokC_big _ (decode_high _ _ h).1, fun q => by cases q⟩
      have C := SA (Utf8.decode (T l) pos).1
      rw [F.1] at C
      have F2 := F.2
      have hd := hd.out
      rw [hdr] at hd
      clear F SA hdr
      generalize (Utf8.decode (T l) pos).1 = R at *
      generalize (Utf8.decode (T l) pos).2 = K at *
      generalize wr.iterAt k0 (T l) (pos + K) = W at *
      generalize (T l).get! pos = d at *
      cases hq : inTok d with
      | true =>
        have hK := F2 hq
        subst hK
        rw [hq] at C
        rw [spanN_yes hq] at hd
        have V : Hid (pos + 1 + spanN inTok (l.drop (pos + 1)) = n) := by show _ = _; omega
        clear hd F2 hq hps
        go_wp2_with fail
        refine (C _).mono ?_; rintro e w3 ⟨rfl, hb⟩
        have NX2 : Aside (Itr w3 k0 (T l) (pos + 1) ∧ Below k0 w w3) := by
          refine ⟨?_, NX.out.2.trans (hb.mono LB.out)⟩
          have hlk : k0 < W.heap.size := (Array.getElem?_eq_some_iff.1 NX.out.1).1
          exact (hb.block k0 hlk).trans NX.out.1
        clear hb
        go_wp2_with fail
        go_roundg (gk - 1)
        case measure => omega
        case rel => exact ⟨pos + 1, by omega, V, NX2.out⟩
      | false =>
        rw [hq] at C
        rw [spanN_no hq] at hd
        have V : Aside (n = pos) := by show _ = _; omega
        clear hd F2 hq hps
        go_wp2_with fail
        refine (C _).mono ?_; rintro e w3 ⟨rfl, hb⟩
        have NX2 : Aside (Below k0 w w3) := NX.out.2.trans (hb.mono LB.out)
        clear hb
        go_wp2_with fail
        go_ret
        exact ⟨by rw [V.out]; rfl, by rw [HKK.out]; exact NX2.out⟩
    · have hpn : ¬ pos < (T l).size := by rw [SZ.out]; exact hlt
      have hnx := fun ty => Lib.run_next_end_at (P := Tryd.prog) wr k0 (T l) pos ty hA.out.1 hpn
      have V : Aside (n = m) := by
        show _ = _
        have hd := hd.out
        rw [List.drop_eq_nil_of_le (by rw [hm.out]; omega), spanN_nil] at hd
        omega
      clear hpn hd
      go_wp2_with fail
      go_ret
      exact ⟨by rw [V.out]; rfl, by rw [HKK.out]; exact hA.out.2⟩

def cutV : Option (List UInt8 × List UInt8) → Value
  | none => .tuple #[.string ⟨#[]⟩, .string ⟨#[]⟩, .bool false]
  | some (a, b) => .tuple #[.string (T a), .string (T b), .bool true]
set_option maxRecDepth 100000 in
set_option maxHeartbeats 1000000 in
theorem cutToken_any (l : List UInt8) (hl : l.length ≤ 1000000) (w : World) :
    Calls Tryd.prog 70 #[.string (T l)] w fun e w' => e = .returned (cutV (tokC l)) ∧ Below w.heap.size w w' := by
  have C := lead_any l hl
  have hle := spanN_le inTok l
  have tc : tokC l = if okN (spanN inTok l) then some (l.take (spanN inTok l), l.drop (spanN inTok l)) else none := rfl
  have hsz : (T l).size = l.length := rfl
  generalize spanN inTok l = n at *
  have y0 : (0 : Int) ≤ (n : Int) := by omega
  by_cases h : 1 ≤ n ∧ n ≤ 100
  · rw [if_pos (okN_yes h)] at tc
    rw [tc]
    have x0 : ((n : Int) == 0) = false := beq_eq_false_iff_ne.2 (by omega)
    have x1 : ¬ (100 : Int) < (n : Int) := by omega
    have s1 : ∀ w, (Instr.slice 9 (.string (T l)) none (some (.int .i64 n)) none).run Tryd.prog w = .ok (.string (T (l.take n))) w := fun w => by
      rw [run_slice_string_to_if (h := Tryd.underlying9), if_pos (by omega)]
      rw [T_cut]; rfl
    have s2 : ∀ w, (Instr.slice 9 (.string (T l)) (some (.int .i64 n)) none none).run Tryd.prog w = .ok (.string (T (l.drop n))) w := fun w => by
      rw [run_slice_string_from_if (h := Tryd.underlying9), if_pos (by omega)]
      rw [T_cut, List.take_of_length_le (by rw [List.length_drop, hsz]; omega)]; rfl
    clear tc h hle hsz
    rw [show cutV (some (l.take n, l.drop n)) = .tuple #[.string (T (l.take n)), .string (T (l.drop n)), .bool true] from rfl]
    generalize T (l.take n) = A at *
    generalize T (l.drop n) = B at *
    go_enter Tryd.func70, Tryd.ntmps70
    go_wp2_with fail
    refine (C _).mono ?_; rintro e w1 ⟨rfl, hb⟩
    go_wp2_with fail
    go_quiet (fail)
    go_wp2_with fail
    go_ret3
    exact ⟨rfl, below_drewN hb _⟩
  · rw [if_neg (by rw [okN_no h]; decide)] at tc
    rw [tc]
    clear tc hle hsz
    by_cases h0 : n = 0
    · subst h0
      clear h
      go_enter Tryd.func70, Tryd.ntmps70
      go_wp2_with fail
      refine (C _).mono ?_; rintro e w1 ⟨rfl, hb⟩
      go_wp2_with fail
      go_ret3
      exact ⟨rfl, hb⟩
    · have x0 : ((n : Int) == 0) = false := beq_eq_false_iff_ne.2 (by omega)
      have x1 : (100 : Int) < (n : Int) := by omega
      clear h h0
      go_enter Tryd.func70, Tryd.ntmps70
      go_wp2_with fail
      refine (C _).mono ?_; rintro e w1 ⟨rfl, hb⟩
      go_wp2_with fail
      go_ret3
      exact ⟨rfl, hb⟩

/-- What strings.CutPrefix answers at one byte. -/
def mustV (l : List UInt8) : Option (List UInt8) → Value
  | none => .tuple #[.string (T l), .bool false]
  | some r => .tuple #[.string (T r), .bool true]
theorem cutPrefix_any (c : UInt8) (l : List UInt8) (w : World) :
    Calls Tryd.prog 72 #[.string (T l), .string (T [c])] w fun e w' => e = .returned (mustV l (must c l)) ∧ w = w' := by
  refine (Tryd.strings_CutPrefix (T l) (T [c]) w).mono ?_
  rintro e w' ⟨rfl, rfl⟩
  refine ⟨?_, rfl⟩
  rw [T_list, T_list]
  cases l with
  | nil => rfl
  | cons d l =>
    rw [must_cons]
    unfold Lib.trimPrefix Lib.hasPrefix
    by_cases e : d = c
    · subst e
      rw [if_pos rfl]
      simp [mustV, T]
    · rw [if_neg e]
      have : (c == d) = false := beq_eq_false_iff_ne.2 (fun q => e q.symm)
      have e2 : [c].isPrefixOf (d :: l) = false := by unfold List.isPrefixOf; rw [this]; rfl
      rw [e2]
      rfl

theorem trimLeft_any (l : List UInt8) (w : World) :
    Calls Tryd.prog 71 #[.string (T l), .string ⟨#[32, 9]⟩] w fun e w' => e = .returned (.string (T (skip l))) ∧ Below w.heap.size w w' := by
  have := Any.strings_TrimLeft_laid Tryd.lays161 (by kernel_rfl) (T l) ⟨#[32, 9]⟩ w (by decide) (fun j b h => by
    match j, h with
    | 0, h => simp at h; subst h; decide
    | 1, h => simp at h; subst h; decide)
  refine this.mono ?_
  rintro e w' ⟨rfl, hb⟩
  refine ⟨?_, hb⟩
  rw [T_list]
  have : Lib.trimLeftS l [32, 9] = skip l := by
    unfold Lib.trimLeftS skip
    congr 1
    funext c
    unfold isBl
    rw [List.contains_cons, List.contains_cons, List.contains_nil, Bool.or_false]
  exact congrArg (fun x => Ending.returned (.string (T x))) this

set_option maxHeartbeats 1000000 in
theorem clone_any (s : ByteArray) (hs : s.size ≤ 1000000) (w : World) :
    Calls Tryd.prog 48 #[.string s] w fun e w' => e = .returned (.string s) ∧ Below w.heap.size w w' := by
  have C := fun w => Tryd.stringslite_Clone s w (by omega)
  go_enter Tryd.func48, Tryd.ntmps48
  go_wp2_with fail
  refine (C _).mono ?_; rintro e w1 ⟨rfl, hb⟩
  go_wp2_with fail
  go_ret
  exact ⟨rfl, hb⟩
end Go.Proofs.YtelofhplpeeplaaDoor.media
