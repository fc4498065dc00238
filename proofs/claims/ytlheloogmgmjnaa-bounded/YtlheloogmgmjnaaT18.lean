import Derived.Test.YtlheloogmgmjnaaT12
import Derived.Test.YtlheloogmgmjnaaT04
import Derived.Test.YtlheloogmgmjnaaT07
namespace Go.Proofs.Ytlheloogmgmjnaa
open Go.RowKit

/-- What the document's waits answers. -/
def RM.waitN (R : RM) (m : Nat) (x : Ins) : Bool :=
  if x.op = 6 ∨ x.op = 7 then waitsIn R.tasks (((R.tasks[m]?).map fun t => t.tx.r.getD x.b.toNat 0).getD 0) m else false

end Go.Proofs.Ytlheloogmgmjnaa
