import Derived.Test.YtlheloogmgmjnaaT24
import Derived.Test.YtlheloogmgmjnaaT08
namespace Go.Proofs.Ytlheloogmgmjnaa
open Go.RowKit

def OpV.cells (x : OpV) : List Value := [.int .i64 x.kind, .int .i64 x.a, .int .i64 x.b, .int .i64 x.c, .slice x.hd.r.a x.hd.r.n x.hd.r.c, .slice x.hd.w.a x.hd.w.n x.hd.w.c, .slice x.hd.c.a x.hd.c.n x.hd.c.c]

end Go.Proofs.Ytlheloogmgmjnaa

namespace Go.Proofs.Ytlheloogmgmjnaa
open Go.RowKit

theorem OpsAt.at {w : World} {ao : Option Addr} {xs : List OpV} (h : OpsAt w ao xs) {k : Nat} (hk : k < xs.length) : ∃ b o, ao = some ⟨b, o, none⟩ ∧ OpAt w b (o + k * 7) (xs.getD k OpV.zero) := by
  rcases h with h | ⟨b, o, rfl, hx⟩
  · subst h; simp at hk
  · exact ⟨b, o, rfl, hx k hk⟩

end Go.Proofs.Ytlheloogmgmjnaa
