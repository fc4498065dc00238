import Derived.Test.YtlheloogmgmjnaaT12
import Derived.Deep.RegionHeldLaw
import Derived.Deep.CutRange
namespace Go.Proofs.Ytlheloogmgmjnaa
open Go.RowKit

theorem OwnTx.below {w w' : World} {h : TH} {t : Tx} (o : OwnTx w h t) (hb : Below w.heap.size w w') : OwnTx w' h t := ⟨o.rO.below hb, o.wO.below hb, o.cO.below hb, o.rn, o.wn, o.cn⟩

end Go.Proofs.Ytlheloogmgmjnaa
