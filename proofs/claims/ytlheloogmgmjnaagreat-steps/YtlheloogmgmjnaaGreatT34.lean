import Derived.Test.YtlheloogmgmjnaaGreatT28
import Derived.Test.YtlheloogmgmjnaaGreatT13
namespace Go.Proofs.YtlheloogmgmjnaaGreat
open Go.RowKit

def OpV.cells (x : OpV) : List Value := [.int .i64 x.kind, .int .i64 x.a, .int .i64 x.b, .int .i64 x.c, .slice x.hd.r.a x.hd.r.n x.hd.r.c, .slice x.hd.w.a x.hd.w.n x.hd.w.c, .slice x.hd.c.a x.hd.c.n x.hd.c.c]

theorem rCut_both (R : RM) (w : World) (h : RefAt w R) :
    Calls Tryz.prog 43 #[.pointer (some ⟨R.b, 0, none⟩)] w fun e w' => ∃ R' : RM, e = .returned (.int .i64 R'.ends.length) ∧ RefAt w' R' ∧ R'.b = R.b ∧ (¬ R.closed < R.tasks.length → R' = R) ∧ (R.closed < R.tasks.length → ∃ s, R' = R.withEnd s) ∧ Chg w w' (fun k => k ∈ R.mut) ∧ (∀ k ∈ R'.foot, k ∈ R.foot ∨ w.heap.size ≤ k) := by
  by_cases hlt : R.closed < R.tasks.length
  · refine (rCut_yes R w h hlt).mono ?_
    rintro e w' ⟨s, rfl, hp, hc, hf⟩
    exact ⟨_, by simp [RM.withEnd], hp, rfl, fun hn => absurd hlt hn, fun _ => ⟨s, rfl⟩, hc, hf⟩
  · refine (rCut_no R w h hlt).mono ?_
    rintro e w' ⟨rfl, n, rfl⟩
    exact ⟨R, rfl, h.drewN n, rfl, fun _ => rfl, fun hn => absurd hn hlt, Chg.drewN _ _ _, fun k hk => Or.inl hk⟩

end Go.Proofs.YtlheloogmgmjnaaGreat

namespace Go.Proofs.YtlheloogmgmjnaaGreat
open Go.RowKit

theorem newRM_foot (b i1 i2 i3 i4 p d r : Nat) : ∀ k ∈ (newRM b i1 i2 i3 i4 p d r).foot, k ∈ [b, i1, i2, i3, i4] := by
  intro k hk
  simp [RM.foot, RM.mut, RM.imm, newRM, Sl.blk, Sl.nil] at hk
  simp
  omega

set_option maxHeartbeats 2000000 in
set_option maxRecDepth 100000 in
theorem begun_no (p d r : Int) (w : World) (h : ¬ sizeOk p d r) :
    Calls Tryz.prog 13 #[.int .i64 p, .int .i64 d, .int .i64 r] w fun e w' => e = .returned (.tuple #[.pointer (some ⟨w.heap.size, 0, none⟩), .bool true]) ∧ RowAt w' w.heap.size 29 [.pointer none, .pointer none] ∧ Below w.heap.size w w' := by
  have PN := hide (pNew_no p d r w h)
  have RN := hide (rNew_no p d r w h)
  clear h
  go_enter Tryz.func13, Tryz.ntmps13
  go_wp2_with (first | (go_at_call 38; refine PN.out.mono ?_; rintro e w' ⟨rfl, rfl⟩) | (go_at_call 41; refine RN.out.mono ?_; rintro e w' ⟨rfl, rfl⟩))
  go_ret2
  exact ⟨rfl, rowAt_alloc _ _ _, below_alloc1 _ _⟩

theorem OpsAt.at {w : World} {ao : Option Addr} {xs : List OpV} (h : OpsAt w ao xs) {k : Nat} (hk : k < xs.length) : ∃ b o, ao = some ⟨b, o, none⟩ ∧ OpAt w b (o + k * 7) (xs.getD k OpV.zero) := by
  rcases h with h | ⟨b, o, rfl, hx⟩
  · subst h; simp at hk
  · exact ⟨b, o, rfl, hx k hk⟩

end Go.Proofs.YtlheloogmgmjnaaGreat
