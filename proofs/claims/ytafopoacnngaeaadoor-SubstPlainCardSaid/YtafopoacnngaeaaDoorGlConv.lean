/- A text's bytes in memory of their own ('[]byte(s)'). -/
import Derived.Test.YtafopoacnngaeaaDoorValid
import Derived.Test.YtafopoacnngaeaaDoorCalm
import Derived.Lib.ConvBytes
import Derived.Laws.AppendOwn
set_option linter.unusedSimpArgs false
set_option linter.unusedVariables false
namespace Go.Proofs.YtafopoacnngaeaaDoor.glref
open Go.RowKit Go.Proofs.YtafopoacnngaeaaDoor.errs Go.Proofs.YtafopoacnngaeaaDoor.utf

theorem bytes_new (s : ByteArray) (hs : s.size ≤ 1000000) (w : World) : ∃ v W, Hid ((convert 9 35 (.string s)).run Tryd.prog w = .ok v W) ∧ Hid (Sl W v s ∧ Below w.heap.size w W) := by
  refine ⟨_, _, Lib.run_convert_string_bytes w 9 35 5 s Tryd.underlying9 Tryd.underlying35 Tryd.underlying5, ⟨_, _, rfl, grownCap_ge _ _ _ _, ?_, fun _ => ⟨_, _, rfl, fun j hj => ?_⟩⟩, ?_⟩
  · have := grownCap_le_maxLen w s.size 0 5 (by unfold maxLen; omega)
    unfold maxLen at this
    omega
  · rw [Nat.zero_add, Lib.bytesWorld_cell w _ s j hj]
    congr 3
    have hj' : j < s.data.toList.length := by rw [Array.length_toList]; exact hj
    rw [List.getD_eq_getElem?_getD, List.getElem?_eq_getElem hj']
    show (s.data.toList[j]).toNat = (s.data[j]!).toNat
    rw [getElem!_pos s.data j hj]
    rfl
  · refine ⟨rfl, rfl, rfl, ?_, fun j hj => Lib.bytesWorld_at_old w _ s j hj⟩
    rw [Lib.bytesWorld_size]
    omega
end Go.Proofs.YtafopoacnngaeaaDoor.glref
