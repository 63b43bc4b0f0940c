/- The block of a slice. -/
import Derived.Test.YtggelnlbdpdegaaDoorWords
import Derived.OwnWalk
import Derived.KernelRfl
namespace Go.Proofs.YtggelnlbdpdegaaDoor
open Go.RowKit
set_option maxRecDepth 100000

/-- the block of a slice -/
def blk (A : Option Addr) : Option Nat := A.map (·.block)
theorem ownBlock_eq (A : Option Addr) (n c : Nat) : (Value.slice A n c).ownBlock = blk A := by cases A <;> rfl
end Go.Proofs.YtggelnlbdpdegaaDoor
