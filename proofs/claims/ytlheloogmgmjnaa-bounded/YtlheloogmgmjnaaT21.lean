import Derived.Test.YtlheloogmgmjnaaT09
import Derived.Test.YtlheloogmgmjnaaT04
import Derived.Test.YtlheloogmgmjnaaT03
import Derived.Laws.IdiomRangeMap
import Derived.Test.YtlheloogmgmjnaaT12
import Derived.Test.YtlheloogmgmjnaaT02
import Derived.Deep.RegionHeld
namespace Go.Proofs.Ytlheloogmgmjnaa
open Go.RowKit

def PM.withEnd (M : PM) (s : Sl) : PM := { M with ends := M.ends ++ [M.recs.length], enS := s }
def PM.withRec (M : PM) (r : PRec) (s : Sl) : PM := { M with recs := M.recs ++ [r], rcS := s }

theorem PM.closed_withEnd (M : PM) (s : Sl) : (M.withEnd s).closed = M.recs.length := by simp [PM.closed, PM.withEnd, List.getD]

end Go.Proofs.Ytlheloogmgmjnaa

namespace Go.Proofs.Ytlheloogmgmjnaa
open Go.RowKit

def zeroRec : List Value := [.slice none 0 0, .slice none 0 0, .slice none 0 0, .bool false, .bool false, .int .i64 0]
theorem Try.info102 : (Try.prog.info? 102).map (fun i => (i.zero, i.size, i.bytes)) = some (some (.agg zeroRec.toArray), 6, 96) := by kernel_rfl
theorem Try.underlying58 : Try.prog.underlying 58 = some (.slice 102) := by kernel_rfl
theorem recRow_oneCell (r : PRec) : ∀ v ∈ r.row, v.oneCell' = true := by
  intro v hv
  simp only [PRec.row, List.mem_cons, List.not_mem_nil, or_false] at hv
  rcases hv with h | h | h | h | h | h <;> subst h <;> rfl

theorem Chg.trans' {w w' w'' : World} {D E : Nat → Prop} (h : Chg w w' D) (k : Chg w' w'' E) (hd : ∀ i, i < w.heap.size → E i → D i) : Chg w w'' D :=
  ⟨k.os.trans h.os, k.tape.trans h.tape, k.output.trans h.output, Nat.le_trans h.size k.size, fun i hi hD => (k.block i (Nat.lt_of_lt_of_le hi h.size) (fun he => hD (hd i hi he))).trans (h.block i hi hD)⟩

end Go.Proofs.Ytlheloogmgmjnaa

namespace Go.Proofs.Ytlheloogmgmjnaa
open Go.RowKit

/-- Why a transaction may not come in. -/
def PM.refusal (M : PM) (t : Tx) : Int := if checkN t ≠ 0 then checkN t else if 150 ≤ M.recs.length then 6 else if M.room < M.taken + t.w.length then 7 else 0

theorem mem_blk' {s : Sl} {a : Addr} (h : s.a = some a) : a.block ∈ s.blk := by simp [Sl.blk, h]

def PM.withTaken (M : PM) (n : Nat) : PM := { M with taken := M.taken + n }

theorem TxAt.chg {w w' : World} {D : Nat → Prop} {h : TH} {t : Tx} (x : TxAt w h t) (hc : Chg w w' D) (hd : ∀ k ∈ h.blks, ¬ D k) : TxAt w' h t :=
  { x with
    ri := x.ri.chg hc (fun a e => hd _ (by simp [TH.blks, mem_blk' e]))
    wi := x.wi.chg hc (fun a e => hd _ (by simp [TH.blks, mem_blk' e]))
    ci := x.ci.chg hc (fun a e => hd _ (by simp [TH.blks, mem_blk' e])) }

end Go.Proofs.Ytlheloogmgmjnaa
