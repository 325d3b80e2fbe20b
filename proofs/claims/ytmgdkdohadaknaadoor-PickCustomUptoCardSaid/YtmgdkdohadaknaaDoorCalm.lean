/- Kind, At and Has asked one behind the other: each keeps all that stood when the first one was asked. -/
import Derived.Test.YtmgdkdohadaknaaDoorHas
import Derived.Deep.LoopGhost
namespace Go.Proofs.YtmgdkdohadaknaaDoor.errs
open Go.RowKit

/-- What stood in W stands in w. -/
def Keeps (W w : World) : Prop := Below W.heap.size W w
theorem Keeps.refl (W : World) : Keeps W W := Below.refl _ _
theorem Keeps.out {W w : World} (h : Keeps W w) : Below W.heap.size W w := h
theorem Keeps.step {W w w' : World} (h : Keeps W w) (h' : Below w.heap.size w w') : Keeps W w' := Below.trans h (Below.mono h' (Below.size h))

end Go.Proofs.YtmgdkdohadaknaaDoor.errs
