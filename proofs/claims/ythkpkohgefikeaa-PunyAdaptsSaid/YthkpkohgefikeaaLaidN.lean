/- The rows of this seat list no variable: a world for the rows' witnesses. -/
import Derived.Test.YthkpkohgefikeaaRows
import Derived.LaidHandle
import Derived.LaidLaws
import Derived.KernelRfl
namespace Go.Proofs.Ythkpkohgefikeaa.laid

def list : List (String × DataW Unit) := []
noncomputable def world (os : Os) : World := World.holding Try.prog os ⟨#[], #[], []⟩
theorem met (os : Os) (args : Array Value) : laidMetH Try.prog list ((world os).forCall (fun _ _ => 0) ⟨#[], args, []⟩).memory :=
  laidMetH_of_parts (laidMet_of_run' 8 (by kernel_rfl) (by kernel_rfl)) (by kernel_rfl)
theorem all {W : World} (_ : laidMetH Try.prog list W) : True := trivial
end Go.Proofs.Ythkpkohgefikeaa.laid
