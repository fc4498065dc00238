import Derived.Test.YtlheloogmgmjnaaT09
import Derived.Test.YtlheloogmgmjnaaT04
import Derived.Test.YtlheloogmgmjnaaT03
import Derived.Laws.IdiomRangeMap
namespace Go.Proofs.Ytlheloogmgmjnaa
open Go.RowKit

theorem mkCells_get (l : List Nat) : ∀ i, i < l.length → (mkCells l)[i * 2]? = some (.int .i64 0) ∧ (mkCells l)[i * 2 + 1]? = some (.map (some (l.getD i 0))) := by
  induction l with
  | nil => intro i hi; simp at hi
  | cons x r ih =>
    intro i hi
    have e : mkCells (x :: r) = .int .i64 0 :: .map (some x) :: mkCells r := by simp [mkCells]
    cases i with
    | zero => simp [e]
    | succ i =>
      have := ih i (by simpa using hi)
      rw [e, show (i + 1) * 2 = i * 2 + 1 + 1 by omega]
      simpa [List.getD] using this

theorem PAt.maker {w : World} {M : PM} (h : PAt w M) {k : Nat} (hk : k < M.mbs.length) : ∃ g, M.mkS.a = some ⟨g, 0, none⟩ ∧ w.cell? ⟨g, k * 2, none⟩ = some (.int .i64 0) ∧ w.cell? ⟨g, k * 2 + 1, none⟩ = some (.map (some (M.mbs.getD k 0))) ∧ w.heap[M.mbs.getD k 0]? = some (.map #[] 0) := by
  obtain ⟨h0, h1⟩ := mkCells_get M.mbs k hk
  obtain ⟨g, hg, c0⟩ := h.mkO.cell h0
  obtain ⟨g', hg', c1⟩ := h.mkO.cell h1
  rw [hg] at hg'
  simp at hg'
  subst hg'
  refine ⟨g, hg, c0, c1, h.maps _ ?_⟩
  rw [nat_get hk]; exact List.getElem_mem hk

def stCells (t b r d m k l : Nat) : List Value := [.int .i64 t, .int .i64 b, .int .i64 r, .int .i64 d, .int .i64 m, .int .i64 k, .int .i64 l]
def zeroState : List Value := [.int .i64 0, .int .i64 0, .int .i64 0, .int .i64 0, .int .i64 0, .int .i64 0, .int .i64 0]

theorem stCells_oneCell (t b r d m k l : Nat) : ∀ v ∈ stCells t b r d m k l, v.oneCell' = true := by
  intro v hv
  simp only [stCells, List.mem_cons, List.not_mem_nil, or_false] at hv
  rcases hv with h | h | h | h | h | h | h <;> subst h <;> rfl

end Go.Proofs.Ytlheloogmgmjnaa
