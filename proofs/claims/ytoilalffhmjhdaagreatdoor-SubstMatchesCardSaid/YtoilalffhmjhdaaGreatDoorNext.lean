/- utf.Next: outside of the bytes the argument is wrong, at their end there are none, else what Go's decoder gives, but that a lone wrong byte is refused; a fault lies in a new block. -/
import Derived.Test.YtoilalffhmjhdaaGreatDoorCalm
import Derived.Test.YtoilalffhmjhdaaGreatDoorShelf
import Derived.Lib.RuneCountTail
namespace Go.Proofs.YtoilalffhmjhdaaGreatDoor.utf
open Go.RowKit Go.Proofs.YtoilalffhmjhdaaGreatDoor.errs

/-- The bytes of s stand from a place on. -/
def Bytes (s : ByteArray) (b off : Nat) (w : World) : Prop := ∀ j, j < s.size → w.cell? ⟨b, off + j, none⟩ = some (.int .u8 (s.get! j).toNat)
theorem Bytes.below {s : ByteArray} {b off B : Nat} {w w' : World} (h : Bytes s b off w) (hb : Below B w w') (hB : w.heap.size ≤ B) : Bytes s b off w' :=
  fun j hj => by rw [hb.cell (Nat.lt_of_lt_of_le (lt_of_cell (h j hj)) hB)]; exact h j hj
theorem Bytes.tail {s : ByteArray} {b off : Nat} {w : World} (h : Bytes s b off w) (n : Nat) : Bytes (s.extract n s.size) b (off + n) w :=
  fun j hj => by
    rw [Lib.tail_size] at hj
    rw [Lib.tail_get!, Nat.add_assoc]
    exact h (n + j) (by omega)
theorem decodeGo_tail (s : ByteArray) (pos : Nat) (h : pos < s.size) : Lib.decodeGo (s.extract pos s.size) = Utf8.decode s pos := by
  unfold Lib.decodeGo
  rw [if_neg (by rw [Lib.tail_size]; omega), Lib.tail_decode, Nat.add_zero]

/-- What Go's text lays for the decoder. -/
def Tabs (w : World) : Prop := Lib.Utf8Tabs 3 4 w
theorem Tabs.below {B : Nat} {w w' : World} (h : Tabs w) (hb : Below B w w') (hB : w.heap.size ≤ B) : Tabs w' := by
  obtain ⟨h1, h2⟩ := h
  refine ⟨fun c hc => ?_, fun i hi => ⟨?_, ?_⟩⟩
  · rw [hb.cell (Nat.lt_of_lt_of_le (lt_of_cell (h1 c hc)) hB)]; exact h1 c hc
  · rw [hb.cell (Nat.lt_of_lt_of_le (lt_of_cell (h2 i hi).1) hB)]; exact (h2 i hi).1
  · rw [hb.cell (Nat.lt_of_lt_of_le (lt_of_cell (h2 i hi).2) hB)]; exact (h2 i hi).2

theorem decode_calls (s : ByteArray) (b off cap : Nat) (w : World) (hT : Tabs w) (hp : Bytes s b off w) (pos : Nat) (h : pos < s.size) :
    Calls Tryz.prog 86 #[.slice (some ⟨b, off + pos, none⟩) (s.size - pos) cap] w fun e w' => e = .returned (.tuple #[.int .i32 (Utf8.decode s pos).1, .int .i64 (Utf8.decode s pos).2]) ∧ Below w.heap.size w w' := by
  have := Any7.utf8_DecodeRune Tryz.lays7n32 (s.extract pos s.size) b (off + pos) cap w hT (hp.tail pos)
  rw [Lib.tail_size, decodeGo_tail s pos h] at this
  exact this

/-- A fault in the newest block, and nothing else turned. -/
def Failed (w : World) (e : Ending) (w' : World) (k a : Int) (rest : Value → Value) : Prop := ∃ v, e = .returned (rest v) ∧ FaultAt w' v k a .nilIface ∧ Below w.heap.size w w'
theorem failed_new (w w1 : World) (hb : Below w.heap.size w w1) (k a : Int) (rest : Value → Value) : Failed w (.returned (rest (.iface 58 (.pointer (some ⟨w1.heap.size, 0, none⟩))))) (w1.alloc (.cells #[.int .i64 k, .int .i64 a, .nilIface] 62)) k a rest :=
  ⟨_, rfl, fault_new w1 k a .nilIface, hb.alloc hb.size _⟩

def zeros (v : Value) : Value := .tuple #[.int .i64 0, .int .i64 0, v]

theorem next_arg (a : Option Addr) (n cap : Nat) (i : Int) (w : World) (hi : i < 0 ∨ (n : Int) < i) :
    Calls Tryz.prog 69 #[.slice a n cap, .int .i64 i] w fun e w' => Failed w e w' 1 i zeros := by
  rcases hi with h | h
  all_goals go_enter Tryz.func69, Tryz.ntmps69
  all_goals go_wp2_with (go_at_call 26; refine (fail_any _ _ _).mono ?_; rintro e w' ⟨rfl, rfl⟩)
  all_goals go_ret3
  all_goals exact failed_new w w (Below.refl _ _) 1 i zeros

theorem next_short (a : Option Addr) (n cap : Nat) (w : World) :
    Calls Tryz.prog 69 #[.slice a n cap, .int .i64 n] w fun e w' => Failed w e w' 10 n zeros := by
  have h0 : (0 : Int) ≤ (n : Int) := by omega
  go_enter Tryz.func69, Tryz.ntmps69
  go_wp2_with (go_at_call 26; refine (fail_any _ _ _).mono ?_; rintro e w' ⟨rfl, rfl⟩)
  go_ret3
  exact failed_new w w (Below.refl _ _) 10 n zeros

/-- Does a character stand there? -/
def charAt (s : ByteArray) (i : Nat) : Bool := !((Utf8.decode s i).1 == 65533 && (Utf8.decode s i).2 == 1)

theorem decode_bounds (s : ByteArray) (i : Nat) : (Utf8.decode s i).1 ≤ 1114111 ∧ 1 ≤ (Utf8.decode s i).2 ∧ (Utf8.decode s i).2 ≤ 4 := by
  rw [Lib.decode_at]
  have h0 := UInt8.toNat_lt (s.get! i)
  generalize (s.get! i).toNat = b0 at *
  unfold Lib.decodeN
  repeat' split
  all_goals simp
  all_goals omega

set_option maxHeartbeats 1000000 in
theorem next_char (s : ByteArray) (b off cap i : Nat) (w : World) (hT : Tabs w) (hp : Bytes s b off w) (hi : i < s.size) (hc : s.size ≤ cap) (_hm : cap ≤ 9223372036854775807) (hy : charAt s i = true) :
    Calls Tryz.prog 69 #[.slice (some ⟨b, off, none⟩) s.size cap, .int .i64 i] w fun e w' => e = .returned (.tuple #[.int .i64 (Utf8.decode s i).1, .int .i64 (Utf8.decode s i).2, .nilIface]) ∧ Below w.heap.size w w' := by
  have C := decode_calls s b off (cap - i) w hT hp i hi
  obtain ⟨b1, b2, b3⟩ := decode_bounds s i
  have hy1 : ¬ ((Utf8.decode s i).1 = 65533 ∧ (Utf8.decode s i).2 = 1) := by
    intro h; simp [charAt, h.1, h.2] at hy
  clear hT hp hy
  generalize (Utf8.decode s i).1 = R at *
  generalize (Utf8.decode s i).2 = K at *
  generalize s.size = n at *
  have hi1 : (i : Int) < (n : Int) := by omega
  have hi0 : (0 : Int) ≤ (i : Int) := by omega
  by_cases hR : R = 65533
  · have hK : ((K : Int) == 1) = false := beq_eq_false_iff_ne.2 (by omega)
    have hR2 : ((R : Int) == 65533) = true := beq_iff_eq.2 (by omega)
    clear hR hy1
    go_enter Tryz.func69, Tryz.ntmps69
    go_wp2_with (go_at_call 86; refine C.mono ?_; rintro e w' ⟨rfl, hb⟩)
    go_ret3
    exact ⟨rfl, hb⟩
  · have hR2 : ((R : Int) == 65533) = false := beq_eq_false_iff_ne.2 (by omega)
    clear hR hy1
    go_enter Tryz.func69, Tryz.ntmps69
    go_wp2_with (go_at_call 86; refine C.mono ?_; rintro e w' ⟨rfl, hb⟩)
    go_ret3
    exact ⟨rfl, hb⟩

set_option maxHeartbeats 1000000 in
theorem next_bad (s : ByteArray) (b off cap i : Nat) (w : World) (hT : Tabs w) (hp : Bytes s b off w) (hi : i < s.size) (hc : s.size ≤ cap) (_hm : cap ≤ 9223372036854775807) (hy : charAt s i = false) :
    Calls Tryz.prog 69 #[.slice (some ⟨b, off, none⟩) s.size cap, .int .i64 i] w fun e w' => Failed w e w' 12 i zeros := by
  have C := decode_calls s b off (cap - i) w hT hp i hi
  have hy1 : (Utf8.decode s i).1 = 65533 ∧ (Utf8.decode s i).2 = 1 := by
    simpa [charAt] using hy
  rw [hy1.1, hy1.2] at C
  clear hT hp hy hy1
  generalize s.size = n at *
  have hi1 : (i : Int) < (n : Int) := by omega
  have hi0 : (0 : Int) ≤ (i : Int) := by omega
  go_enter Tryz.func69, Tryz.ntmps69
  go_wp2_with (first | (go_at_call 86; refine C.mono ?_; rintro e w' ⟨rfl, hb⟩) | (go_at_call 26; refine (fail_any _ _ _).mono ?_; rintro e w'' ⟨rfl, rfl⟩))
  go_ret3
  exact failed_new w _ hb 12 i zeros
end Go.Proofs.YtoilalffhmjhdaaGreatDoor.utf
