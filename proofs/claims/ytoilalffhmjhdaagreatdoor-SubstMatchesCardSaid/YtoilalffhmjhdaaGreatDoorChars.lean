/- utf.Chars: all characters of right bytes, in memory of its own, or Valid's fault. -/
import Derived.Test.YtoilalffhmjhdaaGreatDoorValid
import Derived.Laws.AppendOwn
import Derived.Laws.IdiomStrings
import Derived.Laws.BytesArg
import Derived.Lib.OthersKept
import Derived.Deep.LoopGhost
import Derived.OwnWalk
import Derived.WalkSmall
import Derived.Deep.Onto
set_option linter.unusedSimpArgs false
set_option linter.unusedVariables false
namespace Go.Proofs.YtoilalffhmjhdaaGreatDoor.chars
open Go.RowKit Go.Proofs.YtoilalffhmjhdaaGreatDoor.errs Go.Proofs.YtoilalffhmjhdaaGreatDoor.utf

theorem conv_sl {w : World} {v : Value} {s : ByteArray} (h : Sl w v s) : (convert 74 9 v).run Tryz.prog w = .ok (.string s) w := by
  obtain ⟨a, cap, rfl, h1, h2, h3⟩ := h
  by_cases h0 : 0 < s.size
  · obtain ⟨b, off, rfl, hB⟩ := h3 h0
    have := run_convert_bytes_back (P := Tryz.prog) w 74 9 5 ⟨b, off, none⟩ cap s.data.toList Tryz.underlying74 Tryz.underlying5 Tryz.underlying9 (fun j hj => by
      have hj' : j < s.size := by simpa using hj
      have := hB j hj'
      rw [show (Addr.add ⟨b, off, none⟩ j : Addr) = ⟨b, off + j, none⟩ by simp [Addr.add], this]
      have hj2 : j < s.data.size := hj'
      simp [ByteArray.get!, getElem!_pos s.data j hj2])
    simpa using this
  · have e : s.size = 0 := by omega
    have hs : s = ⟨#[]⟩ := by
      obtain ⟨d⟩ := s
      have : d = #[] := Array.size_eq_zero_iff.1 e
      rw [this]
    subst hs
    cases a with
    | none => exact run_convert_bytes_nil w _ _ Tryz.underlying74 Tryz.underlying5 _ _ _ Tryz.underlying9
    | some ad => exact run_convert_bytes_back (P := Tryz.prog) w 74 9 5 ad cap [] Tryz.underlying74 Tryz.underlying5 Tryz.underlying9 (fun j hj => by simp at hj)

/-- The characters from a place on (in so many steps). -/
def from_ (s : ByteArray) : Nat → Nat → List Int
  | 0, _ => []
  | g + 1, i => if i < s.size then ((Utf8.decode s i).1 : Int) :: from_ s g (i + (Utf8.decode s i).2) else []
def all (s : ByteArray) : List Int := from_ s s.size 0
theorem from_end (s : ByteArray) (g i : Nat) (h : s.size ≤ i) : from_ s g i = [] := by
  cases g with
  | zero => rfl
  | succ g => simp [from_, Nat.not_lt.2 h]
theorem from_step (s : ByteArray) (g i : Nat) (h : i < s.size) : from_ s (g + 1) i = ((Utf8.decode s i).1 : Int) :: from_ s g (i + (Utf8.decode s i).2) := by simp [from_, h]

def ints (l : List Int) : List Value := l.map (Value.int .i64)

/-- What utf.Chars answers. -/
def CharsOut (s : ByteArray) (o : Option Nat) (w : World) (e : Ending) (w' : World) : Prop :=
  match o with
  | none => ∃ v, e = .returned (.tuple #[v, .nilIface]) ∧ w'.ownsRow w.heap.size 3 1 v (all s).length (ints (all s)) ∧ Below w.heap.size w w'
  | some i => Failed w e w' 12 i fun v => .tuple #[.slice none 0 0, v]

theorem infoInt : (Tryz.prog.info? 3).map (fun i => (i.zero, i.size, i.bytes)) = some (some (.int .i64 0), 1, 8) := by kernel_rfl

end Go.Proofs.YtoilalffhmjhdaaGreatDoor.chars
