import Derived.Test.YtlheloogmgmjnaaT07
import Derived.Test.YtlheloogmgmjnaaT09
import Derived.Test.YtlheloogmgmjnaaT05
import Derived.Deep.RegionHeldLaw
import Derived.Deep.DeepMust
import Derived.Test.YtlheloogmgmjnaaT02
import Derived.Deep.RegionHeld
import Derived.Test.YtlheloogmgmjnaaT03
namespace Go.Proofs.Ytlheloogmgmjnaa
open Go.RowKit

def RM.foot (M : RM) : List Nat := M.mut ++ M.imm

/-- The store behind a new end of a batch. -/
def RM.withEnd (M : RM) (s : Sl) : RM := { M with ends := M.ends ++ [M.tasks.length], enS := s }

end Go.Proofs.Ytlheloogmgmjnaa

namespace Go.Proofs.Ytlheloogmgmjnaa
open Go.RowKit

/-- What the keys have when the first k slots have been laid. -/
def putTo (hv : List Slot) (ks : List Int) (ws : List Slot) : Nat → List Slot
  | 0 => hv
  | k + 1 => (putTo hv ks ws k).set (ks.getD k 0).toNat (ws.getD k Slot.none)
theorem putTo_len (hv : List Slot) (ks : List Int) (ws : List Slot) (k : Nat) : (putTo hv ks ws k).length = hv.length := by
  induction k with
  | zero => rfl
  | succ k ih => simp [putTo, ih]

end Go.Proofs.Ytlheloogmgmjnaa

namespace Go.Proofs.Ytlheloogmgmjnaa
open Go.RowKit

theorem BoolsAt.below {w w' : World} {ao : Option Addr} {xs : List Bool} (h : BoolsAt w ao xs) (hb : Below w.heap.size w w') : BoolsAt w' ao xs := h.chg (Chg.of_below hb (fun _ => False)) (fun _ _ => id)

end Go.Proofs.Ytlheloogmgmjnaa

namespace Go.Proofs.Ytlheloogmgmjnaa
open Go.RowKit

/-- Must a look at a key wait, of the first i transactions, from the greatest on? -/
def waitsIn (l : List Tsk) (key : Int) : Nat → Bool
  | 0 => false
  | i + 1 =>
    match l[i]? with
    | none => false
    | some t => if 0 ≤ t.wr key then (if t.ended = false then true else if t.crs.said.getD (t.wr key).toNat false then false else waitsIn l key i) else waitsIn l key i

theorem waitsIn_succ {l : List Tsk} {key : Int} {i : Nat} (hi : i < l.length) :
    waitsIn l key (i + 1) = if 0 ≤ l[i].wr key then (if l[i].ended = false then true else if l[i].crs.said.getD (l[i].wr key).toNat false then false else waitsIn l key i) else waitsIn l key i := by
  simp [waitsIn, hi]

def RM.waits (R : RM) (n : Nat) (x : Ins) : Bool :=
  if x.op = 6 ∨ x.op = 7 then (match R.tasks[n - 1]? with | none => false | some t => waitsIn R.tasks (t.tx.r.getD x.b.toNat 0) (n - 1)) else false

end Go.Proofs.Ytlheloogmgmjnaa

namespace Go.Proofs.Ytlheloogmgmjnaa
open Go.RowKit

/-- What Result answers. -/
def RM.result (R : RM) (n : Int) : Bool × Int × Int :=
  if 1 ≤ n ∧ n ≤ R.tasks.length then (match R.tasks[n.toNat - 1]? with | none => (false, 0, 8) | some t => if t.ended then (t.crs.ab, t.crs.out, 0) else (false, 0, 9)) else (false, 0, 8)

end Go.Proofs.Ytlheloogmgmjnaa

namespace Go.Proofs.Ytlheloogmgmjnaa
open Go.RowKit

def RM.withDealt (R : RM) (i d : Nat) : RM := { R with dealt := R.dealt.set i d }
def RM.withHand (R : RM) (i n : Nat) : RM := { R with hand := R.hand.set i n }
def RM.withDid (R : RM) (i n : Nat) : RM := { R with dids := R.dids.set i n }
def RM.withTaken (R : RM) (n : Nat) : RM := { R with taken := n }

end Go.Proofs.Ytlheloogmgmjnaa

namespace Go.Proofs.Ytlheloogmgmjnaa
open Go.RowKit

def Tsk.end (t : Tsk) : Tsk := { t with ended := true }
def RM.withEnded (R : RM) (m : Nat) : RM := { R with tasks := R.tasks.modify m Tsk.end }

end Go.Proofs.Ytlheloogmgmjnaa

namespace Go.Proofs.Ytlheloogmgmjnaa
open Go.RowKit

theorem RM.ready_le (R : RM) : R.ready ≤ R.ends.length := List.countP_le_length
/-- A doer has taken the next one. -/
def RM.took (R : RM) (d : Nat) : RM := ((R.withTaken (R.taken + 1)).withHand d (R.taken + 1)).withDid d 0
/-- A doer's transaction has ended. -/
def RM.freed (R : RM) (d m : Nat) : RM := (R.withEnded m).withHand d 0

end Go.Proofs.Ytlheloogmgmjnaa

namespace Go.Proofs.Ytlheloogmgmjnaa
open Go.RowKit

def sizeOk (p d r : Int) : Prop := 1 ≤ p ∧ p ≤ 8 ∧ 1 ≤ d ∧ d ≤ 6 ∧ 0 ≤ r ∧ r ≤ 500

end Go.Proofs.Ytlheloogmgmjnaa
