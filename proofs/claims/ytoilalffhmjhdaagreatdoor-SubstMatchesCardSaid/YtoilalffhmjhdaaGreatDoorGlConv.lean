/- A text's bytes in memory of their own ('[]byte(s)'). -/
import Derived.Test.YtoilalffhmjhdaaGreatDoorValid
import Derived.Test.YtoilalffhmjhdaaGreatDoorCalm
import Derived.Lib.ConvBytes
import Derived.Laws.AppendOwn
set_option linter.unusedSimpArgs false
set_option linter.unusedVariables false
namespace Go.Proofs.YtoilalffhmjhdaaGreatDoor.glref
open Go.RowKit Go.Proofs.YtoilalffhmjhdaaGreatDoor.errs Go.Proofs.YtoilalffhmjhdaaGreatDoor.utf

theorem bytes_new (s : ByteArray) (hs : s.size ≤ 1000000) (w : World) : ∃ v W, Hid ((convert 9 74 (.string s)).run Tryz.prog w = .ok v W) ∧ Hid (Sl W v s ∧ Below w.heap.size w W) := by
  refine ⟨_, _, Lib.run_convert_string_bytes w 9 74 5 s Tryz.underlying9 Tryz.underlying74 Tryz.underlying5, ⟨_, _, rfl, grownCap_ge _ _ _ _, ?_, fun _ => ⟨_, _, rfl, fun j hj => ?_⟩⟩, ?_⟩
  · have := grownCap_le_maxLen w s.size 0 5 (by unfold maxLen; omega)
    unfold maxLen at this
    omega
  · rw [Nat.zero_add, Lib.bytesWorld_cell w _ s j hj]
    congr 3
    have hj' : j < s.data.toList.length := by rw [Array.length_toList]; exact hj
    rw [List.getD_eq_getElem?_getD, List.getElem?_eq_getElem hj']
    show (s.data.toList[j]).toNat = (s.data[j]!).toNat
    rw [getElem!_pos s.data j hj]
    rfl
  · refine ⟨rfl, rfl, rfl, ?_, fun j hj => Lib.bytesWorld_at_old w _ s j hj⟩
    rw [Lib.bytesWorld_size]
    omega
end Go.Proofs.YtoilalffhmjhdaaGreatDoor.glref
