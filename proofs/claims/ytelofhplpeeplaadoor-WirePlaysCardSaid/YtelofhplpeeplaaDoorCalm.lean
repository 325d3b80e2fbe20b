/- Kind, At and Has asked one behind the other: each keeps all that stood when the first one was asked. -/
import Derived.Test.YtelofhplpeeplaaDoorHas
import Derived.Deep.LoopGhost
namespace Go.Proofs.YtelofhplpeeplaaDoor.errs
open Go.RowKit

/-- What stood in W stands in w. -/
def Keeps (W w : World) : Prop := Below W.heap.size W w
theorem Keeps.refl (W : World) : Keeps W W := Below.refl _ _
theorem Keeps.out {W w : World} (h : Keeps W w) : Below W.heap.size W w := h
theorem Keeps.step {W w w' : World} (h : Keeps W w) (h' : Below w.heap.size w w') : Keeps W w' := Below.trans h (Below.mono h' (Below.size h))

theorem kind_keeps {W w : World} {v inner : Value} {k a : Int} (hL : Laid W) (hf : FaultAt W v k a inner) (hb : Keeps W w) :
    Calls Tryd.prog 9 #[v] w fun e w' => e = .returned (.int .i64 k) ∧ Keeps W w' :=
  (kind_fault v inner k a w (hL.below hb (Nat.le_refl _)) (hf.below hb (Nat.le_refl _))).mono fun _ _ ⟨h1, h2⟩ => ⟨h1, hb.step h2⟩
theorem at_keeps {W w : World} {v inner : Value} {k a : Int} (hL : Laid W) (hf : FaultAt W v k a inner) (hb : Keeps W w) :
    Calls Tryd.prog 11 #[v] w fun e w' => e = .returned (.int .i64 a) ∧ Keeps W w' :=
  (at_fault v inner k a w (hL.below hb (Nat.le_refl _)) (hf.below hb (Nat.le_refl _))).mono fun _ _ ⟨h1, h2⟩ => ⟨h1, hb.step h2⟩
end Go.Proofs.YtelofhplpeeplaaDoor.errs
