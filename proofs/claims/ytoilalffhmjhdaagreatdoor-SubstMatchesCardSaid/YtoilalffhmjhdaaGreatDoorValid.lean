/- utf.Valid: nil, if characters stand one behind the other, else a fault at the first place at which none stands. -/
import Derived.Test.YtoilalffhmjhdaaGreatDoorNext
import Derived.Deep.LoopGhost
namespace Go.Proofs.YtoilalffhmjhdaaGreatDoor.utf
open Go.RowKit Go.Proofs.YtoilalffhmjhdaaGreatDoor.errs

/-- A slice that holds the bytes of s. -/
def Sl (w : World) (v : Value) (s : ByteArray) : Prop :=
  ∃ a cap, v = .slice a s.size cap ∧ s.size ≤ cap ∧ cap ≤ 9223372036854775807 ∧ (0 < s.size → ∃ b off, a = some ⟨b, off, none⟩ ∧ Bytes s b off w)
theorem Sl.below {w w' : World} {v : Value} {s : ByteArray} (h : Sl w v s) (hb : Below w.heap.size w w') : Sl w' v s := by
  obtain ⟨a, cap, rfl, h1, h2, h3⟩ := h
  refine ⟨a, cap, rfl, h1, h2, fun h => ?_⟩
  obtain ⟨b, off, rfl, hB⟩ := h3 h
  exact ⟨b, off, rfl, hB.below hb (Nat.le_refl _)⟩

/-- The first place from i on at which a character should begin, and none stands (in so many steps). -/
def scan (s : ByteArray) : Nat → Nat → Option Nat
  | 0, _ => none
  | g + 1, i => if i < s.size then (if charAt s i then scan s g (i + (Utf8.decode s i).2) else some i) else none
def firstBad (s : ByteArray) : Option Nat := scan s s.size 0

theorem scan_end (s : ByteArray) (g i : Nat) (h : s.size ≤ i) : scan s g i = none := by
  cases g with
  | zero => rfl
  | succ g => simp [scan, Nat.not_lt.2 h]
theorem scan_step (s : ByteArray) (g i : Nat) (h : i < s.size) (hc : charAt s i = true) : scan s (g + 1) i = scan s g (i + (Utf8.decode s i).2) := by
  simp [scan, h, hc]
theorem scan_bad (s : ByteArray) (g i : Nat) (h : i < s.size) (hc : charAt s i = false) : scan s (g + 1) i = some i := by
  simp [scan, h, hc]

theorem decode_fits (s : ByteArray) (i : Nat) (h : i < s.size) : i + (Utf8.decode s i).2 ≤ s.size := by
  rw [Lib.decode_at]
  have hn : 1 ≤ s.size - i := by omega
  generalize hk : s.size - i = n at *
  have hs : s.size = i + n := by omega
  rw [hs]
  unfold Lib.decodeN
  repeat' split
  all_goals simp
  all_goals omega

/-- What utf.Valid answers. -/
def ValidOut (o : Option Nat) (w : World) (e : Ending) (w' : World) : Prop :=
  match o with
  | none => e = .returned .nilIface ∧ Below w.heap.size w w'
  | some i => Failed w e w' 12 i id

theorem Failed.from {w w1 w2 : World} {e : Ending} {k a : Int} {rest : Value → Value} (hb : Below w.heap.size w w1) (h : Failed w1 e w2 k a rest) : Failed w e w2 k a rest := by
  obtain ⟨v, h1, h2, h3⟩ := h
  exact ⟨v, h1, h2, hb.trans (h3.mono hb.size)⟩

/-- The value of a failed call written out, for a walk. -/
theorem Failed.opened {w : World} {k a : Int} {rest : Value → Value} (e : Ending) (w' : World) (h : Failed w e w' k a rest) :
    ∃ bb, e = .returned (rest (.iface 58 (.pointer (some ⟨bb, 0, none⟩)))) ∧ Aside (FaultAt w' (.iface 58 (.pointer (some ⟨bb, 0, none⟩))) k a .nilIface ∧ Below w.heap.size w w') := by
  obtain ⟨v, rfl, ⟨bb, rfl, q⟩, hb⟩ := h
  exact ⟨bb, rfl, ⟨bb, rfl, q⟩, hb⟩

set_option maxHeartbeats 1000000 in
theorem valid_any (s : ByteArray) (v : Value) (w : World) (hT : Tabs w) (hv : Sl w v s) :
    Calls Tryz.prog 43 #[v] w fun e w' => ValidOut (firstBad s) w e w' := by
  obtain ⟨a, cap, rfl, h1, h2, h3⟩ := hv
  obtain ⟨res, hres⟩ : ∃ res, Hid (firstBad s = res) := ⟨_, rfl⟩
  rw [hres.out]
  unfold firstBad at hres
  go_enter Tryz.func43, Tryz.ntmps43
  go_wp2_with fail
  go_loopg [3] s.size (fun g t wr => ∃ i : Nat, t = .int .i64 i ∧ i ≤ s.size ∧ Below w.heap.size w wr ∧ Hid (scan s g i = res) ∧ s.size ≤ i + g)
  case atStart => exact ⟨0, rfl, Nat.zero_le _, Below.refl _ _, hres, by omega⟩
  case round =>
    clear hres
    obtain ⟨i, rfl, hi, hb, hs, hg⟩ := hrel
    by_cases hlt : i < s.size
    · obtain ⟨b, off, rfl, hB⟩ := h3 (by omega)
      obtain ⟨g, rfl⟩ : ∃ g, gk = g + 1 := ⟨gk - 1, by omega⟩
      have hlt' : (i : Int) < (s.size : Int) := by omega
      have hf := decode_fits s i hlt
      cases hc : charAt s i with
      | true =>
        have C := next_char s b off cap i wr (hT.below hb (Nat.le_refl _)) (hB.below hb (Nat.le_refl _)) hlt h1 h2 hc
        have hs' : Hid (scan s g (i + (Utf8.decode s i).2) = res) := (scan_step s g i hlt hc).symm.trans hs.out
        obtain ⟨b1, b2, b3⟩ := decode_bounds s i
        generalize (Utf8.decode s i).1 = R at *
        generalize (Utf8.decode s i).2 = K at *
        have A : Aside (Below w.heap.size w wr ∧ Tabs w ∧ Bytes s b off w) := ⟨hb, hT, hB⟩
        clear hs hc h3 hb hT hB
        go_wp2_with (go_at_call 69; refine C.mono ?_; rintro e w' ⟨rfl, hb'⟩)
        go_roundg g
        case measure => omega
        case rel =>
          obtain ⟨hb, hT, hB⟩ := A.out
          exact ⟨i + K, by go_num, by omega, hb.trans (hb'.mono hb.size), hs', by omega⟩
      | false =>
        have C := (next_bad s b off cap i wr (hT.below hb (Nat.le_refl _)) (hB.below hb (Nat.le_refl _)) hlt h1 h2 hc).mono Failed.opened
        unfold zeros at C
        have hs' : Hid (res = some i) := hs.out.symm.trans (scan_bad s g i hlt hc)
        have A : Aside (Below w.heap.size w wr) := hb
        clear hs hc h3 hb hT hB
        go_wp2_with (go_at_call 69; refine C.mono ?_; rintro e w' ⟨bb, rfl, Q⟩)
        go_ret
        rw [hs'.out]
        exact Failed.from A.out ⟨_, rfl, Q.out.1, Q.out.2⟩
    · have hs' : Hid (res = none) := hs.out.symm.trans (scan_end s gk i (by omega))
      have hlt' : ¬ (i : Int) < (s.size : Int) := by omega
      clear hs h3
      go_wp2_with fail
      go_ret
      rw [hs'.out]
      exact ⟨rfl, hb⟩
end Go.Proofs.YtoilalffhmjhdaaGreatDoor.utf
