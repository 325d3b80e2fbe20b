/- A region that only reads but for calls that lay blocks of their own: walked once, in the order of the text, over all worlds that keep what stood. -/
import Derived.Test.YtmaigbfmbhknhaaDoorPrRefPrints
import Derived.Deep.QuietTactic
namespace Go.Proofs.YtmaigbfmbhknhaaDoor.prints
open Go.RowKit Go.Proofs.YtmaigbfmbhknhaaDoor.errs

section
variable {C : World → Prop} {ops : Array Oper} {Q : Act → Prop} {a : Act} {o : Oper} {rest : List Oper}
theorem cq_pure (hw : Region.wanted o (yielded ops a.tmps) = true) (h : ∃ v, (∀ w, (execOp a.eval o).run Tryd.prog w = .ok (.value v) w) ∧ wpQuiet Tryd.prog ops C Q rest (a.put o.dst v)) : wpQuiet Tryd.prog ops C Q (o :: rest) a := by
  obtain ⟨v, hy, h⟩ := h
  unfold wpQuiet
  rw [if_pos hw]
  exact ⟨v, fun w _ => by unfold Oper.quietAt; rw [hy]; exact ⟨rfl, rfl⟩, h⟩
theorem cq_load24 (hw : Region.wanted o (yielded ops a.tmps) = true) (x : Operand) (ho : o.op = .load 24 x)
    (b off : Nat) (hx : a.eval x = .pointer (some ⟨b, off, none⟩)) (p : Pr) (hc : ∀ w, C w → At32 w b off p) (h : wpQuiet Tryd.prog ops C Q rest (a.put o.dst (.agg (enc p).toArray))) :
    wpQuiet Tryd.prog ops C Q (o :: rest) a := by
  unfold wpQuiet
  rw [if_pos hw]
  refine ⟨_, fun w hw1 => ?_, h⟩
  have hc' : w.rangeAt b off (enc p) := hc w hw1
  unfold Oper.quietAt execOp
  simp only [ho, hx, Instr.loadAt, Instr.sureAddr, Sem.run_bind, Sem.run_pure, Result.andThen_ok, run_loadVar_mid w b off 24 (enc p) _ hc' Tryd.underlying24 rfl (size_enc p)]
  exact ⟨rfl, rfl⟩
theorem cq_call (hw : Region.wanted o (yielded ops a.tmps) = true) (f : FuncId) (args : Array Value) (v : Value) (hy : ∀ w, (execOp a.eval o).run Tryd.prog w = .ok (.enter f args) w)
    (hc : ∀ w, C w → Calls Tryd.prog f args w fun e w' => e = .returned v ∧ C w') (h : wpQuiet Tryd.prog ops C Q rest (a.put o.dst v)) : wpQuiet Tryd.prog ops C Q (o :: rest) a := by
  unfold wpQuiet
  rw [if_pos hw]
  exact ⟨v, fun w hw1 => by unfold Oper.quietAt; rw [hy]; exact ⟨rfl, hc w hw1⟩, h⟩
theorem cq_region {id : Nat} {Q : Exit → Act → World → Prop} {a : Act} {w : World} {l : List Oper} (hm : (Tryd.prog).follows .mixedOrders = true) (hB : Region.lexB .any l.toArray = true)
    (h : wpQuiet Tryd.prog l.toArray (Keeps w) (fun a' => ∀ w', Keeps w w' → Q .normal a' w') l a) : (Code.region id l.toArray true).wp Tryd.prog Q a w :=
  wp_region_quiet (C := Keeps w) hm hB (Below.drew (Below.refl _ w)) (by simpa using h)
end
end Go.Proofs.YtmaigbfmbhknhaaDoor.prints
