import Derived.Test.YtlheloogmgmjnaaGreatT12
import Derived.Test.YtlheloogmgmjnaaGreatT07
import Derived.Test.YtlheloogmgmjnaaGreatT03
import Derived.Laws.IdiomRangeMap
import Derived.Test.YtlheloogmgmjnaaGreatT16
import Derived.Test.YtlheloogmgmjnaaGreatT02
import Derived.Test.YtlheloogmgmjnaaGreatT09
namespace Go.Proofs.YtlheloogmgmjnaaGreat
open Go.RowKit

def PM.withEnd (M : PM) (s : Sl) : PM := { M with ends := M.ends ++ [M.recs.length], enS := s }
def PM.withRec (M : PM) (r : PRec) (s : Sl) : PM := { M with recs := M.recs ++ [r], rcS := s }

end Go.Proofs.YtlheloogmgmjnaaGreat

namespace Go.Proofs.YtlheloogmgmjnaaGreat
open Go.RowKit

def zeroRec : List Value := [.slice none 0 0, .slice none 0 0, .slice none 0 0, .bool false, .bool false, .int .i64 0]
theorem Tryz.info158 : (Tryz.prog.info? 158).map (fun i => (i.zero, i.size, i.bytes)) = some (some (.agg zeroRec.toArray), 6, 96) := by kernel_rfl
theorem Tryz.underlying92 : Tryz.prog.underlying 92 = some (.slice 158) := by kernel_rfl
theorem recRow_oneCell (r : PRec) : ∀ v ∈ r.row, v.oneCell' = true := by
  intro v hv
  simp only [PRec.row, List.mem_cons, List.not_mem_nil, or_false] at hv
  rcases hv with h | h | h | h | h | h <;> subst h <;> rfl

theorem Chg.trans' {w w' w'' : World} {D E : Nat → Prop} (h : Chg w w' D) (k : Chg w' w'' E) (hd : ∀ i, i < w.heap.size → E i → D i) : Chg w w'' D :=
  ⟨k.os.trans h.os, k.tape.trans h.tape, k.output.trans h.output, Nat.le_trans h.size k.size, fun i hi hD => (k.block i (Nat.lt_of_lt_of_le hi h.size) (fun he => hD (hd i hi he))).trans (h.block i hi hD)⟩

end Go.Proofs.YtlheloogmgmjnaaGreat

namespace Go.Proofs.YtlheloogmgmjnaaGreat
open Go.RowKit

/-- Why a transaction may not come in. -/
def PM.refusal (M : PM) (t : Tx) : Int := if checkN t ≠ 0 then checkN t else if 150 ≤ M.recs.length then 6 else if M.room < M.taken + t.w.length then 7 else 0

theorem mem_blk' {s : Sl} {a : Addr} (h : s.a = some a) : a.block ∈ s.blk := by simp [Sl.blk, h]

def PM.withTaken (M : PM) (n : Nat) : PM := { M with taken := M.taken + n }

theorem TxAt.chg {w w' : World} {D : Nat → Prop} {h : TH} {t : Tx} (x : TxAt w h t) (hc : Chg w w' D) (hd : ∀ k ∈ h.blks, ¬ D k) : TxAt w' h t :=
  { x with
    ri := x.ri.chg hc (fun a e => hd _ (by simp [TH.blks, mem_blk' e]))
    wi := x.wi.chg hc (fun a e => hd _ (by simp [TH.blks, mem_blk' e]))
    ci := x.ci.chg hc (fun a e => hd _ (by simp [TH.blks, mem_blk' e])) }

end Go.Proofs.YtlheloogmgmjnaaGreat
