/- A region that draws its order, only reads, and calls functions that lay blocks of their own: walked once, in the order of the text, over all worlds that keep what stood. -/
import Derived.Test.YtmgdkdohadaknaaDoorMdCel
import Derived.Deep.QuietTactic
import Derived.BigQuiet
namespace Go.Proofs.YtmgdkdohadaknaaDoor.mcls
open Go.RowKit

section
variable {C : World → Prop} {ops : Array Oper} {Q : Act → Prop} {a : Act} {o : Oper} {rest : List Oper}
theorem cq_skip (hw : Region.wanted o (yielded ops a.tmps) = false) (h : wpQuiet Tryd.prog ops C Q rest (a.put o.dst undef)) : wpQuiet Tryd.prog ops C Q (o :: rest) a := by
  unfold wpQuiet
  rw [if_neg (by rw [hw]; decide)]
  exact h
theorem cq_op (hw : Region.wanted o (yielded ops a.tmps) = true) (h : ∃ v, (∀ w, C w → (execOp a.eval o).run Tryd.prog w = .ok (.value v) w) ∧ wpQuiet Tryd.prog ops C Q rest (a.put o.dst v)) : wpQuiet Tryd.prog ops C Q (o :: rest) a := by
  obtain ⟨v, hy, h⟩ := h
  unfold wpQuiet
  rw [if_pos hw]
  exact ⟨v, fun w hc => by unfold Oper.quietAt; rw [hy w hc]; exact ⟨rfl, rfl⟩, h⟩
theorem cq_call (hw : Region.wanted o (yielded ops a.tmps) = true) (f : FuncId) (args : Array Value) (v : Value) (hy : ∀ w, (execOp a.eval o).run Tryd.prog w = .ok (.enter f args) w)
    (hc : ∀ w, C w → Calls Tryd.prog f args w fun e w' => e = .returned v ∧ C w') (h : wpQuiet Tryd.prog ops C Q rest (a.put o.dst v)) : wpQuiet Tryd.prog ops C Q (o :: rest) a := by
  unfold wpQuiet
  rw [if_pos hw]
  exact ⟨v, fun w hw1 => by unfold Oper.quietAt; rw [hy]; exact ⟨rfl, hc w hw1⟩, h⟩
def Kp (W w : World) : Prop := Below W.heap.size W w
theorem Kp.refl (W : World) : Kp W W := Below.refl _ _
theorem Kp.out {W w : World} (h : Kp W w) : Below W.heap.size W w := h
theorem Kp.step {W w w' : World} (h : Kp W w) (h' : Below w.heap.size w w') : Kp W w' := Below.trans h (Below.mono h' (Below.size h))
theorem cq_region {id : Nat} {Q : Exit → Act → World → Prop} {a : Act} {w : World} {l : List Oper} (hm : (Tryd.prog).follows .mixedOrders = true) (hB : Region.lexB .any l.toArray = true)
    (h : wpQuiet Tryd.prog l.toArray (Kp w) (fun a' => ∀ w', Kp w w' → Q .normal a' w') l a) : (Code.region id l.toArray true).wp Tryd.prog Q a w :=
  wp_region_quiet (C := Kp w) hm hB (Below.drew (Below.refl _ w)) (by simpa using h)
end
end Go.Proofs.YtmgdkdohadaknaaDoor.mcls
