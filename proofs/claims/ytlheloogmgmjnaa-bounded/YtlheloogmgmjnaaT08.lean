import Derived.Test.YtlheloogmgmjnaaT01
import Derived.Test.YtlheloogmgmjnaaT05
import Derived.ProofKit
import Derived.SizedLaws
import Derived.Deep.Slices
import Derived.Deep.Strs
import Derived.Lib.SmallJoins
namespace Go.Proofs.Ytlheloogmgmjnaa
open Go.ChangeShapes Go.WideShapes Go.ChangeAt Go.RowKit

theorem Try.own : ownKnob Try.prog.godebug = none := by kernel_rfl
theorem Try.laidOut : laidOutB Try.prog = true := by kernel_rfl
theorem Try.cells3 : Try.prog.cellsOf 3 = 1 := by kernel_rfl
theorem Try.cells22 : Try.prog.cellsOf 22 = 1 := by kernel_rfl
section
variable {H : Type} {enc : TypeId × Value → H} {w : World} {base : Nat} {spare : Nat → Bool} {held : Bool}

/-- The numbers of a transaction fit their kind. -/
def Tx.wf (t : Tx) : Prop := (∀ y ∈ t.r, (Lit.int .i64 y).wf = true) ∧ (∀ y ∈ t.w, (Lit.int .i64 y).wf = true) ∧ (∀ y ∈ t.c, (Lit.int .i64 y.op).wf = true ∧ (Lit.int .i64 y.a).wf = true ∧ (Lit.int .i64 y.b).wf = true ∧ (Lit.int .i64 y.c).wf = true)

end

end Go.Proofs.Ytlheloogmgmjnaa

namespace Go.Proofs.Ytlheloogmgmjnaa
open Go.ChangeShapes Go.WideShapes Go.ChangeAt Go.RowKit

/-- One step of a script. -/
structure OpV where
  kind : Int
  a : Int
  b : Int
  c : Int
  hd : TH
  t : Tx
def OpV.zero : OpV := ⟨0, 0, 0, 0, ⟨⟨none, 0, 0⟩, ⟨none, 0, 0⟩, ⟨none, 0, 0⟩⟩, ⟨[], [], []⟩⟩

/-- A step lies at a place. -/
structure OpAt (w : World) (b o : Nat) (x : OpV) : Prop where
  k0 : w.cell? ⟨b, o, none⟩ = some (.int .i64 x.kind)
  k1 : w.cell? ⟨b, o + 1, none⟩ = some (.int .i64 x.a)
  k2 : w.cell? ⟨b, o + 2, none⟩ = some (.int .i64 x.b)
  k3 : w.cell? ⟨b, o + 3, none⟩ = some (.int .i64 x.c)
  k4 : w.cell? ⟨b, o + 4, none⟩ = some (.slice x.hd.r.a x.hd.r.n x.hd.r.c)
  k5 : w.cell? ⟨b, o + 5, none⟩ = some (.slice x.hd.w.a x.hd.w.n x.hd.w.c)
  k6 : w.cell? ⟨b, o + 6, none⟩ = some (.slice x.hd.c.a x.hd.c.n x.hd.c.c)
  tx : TxAt w x.hd x.t
  nl : (x.hd.r.a = none → x.hd.r.n = 0 ∧ x.hd.r.c = 0) ∧ (x.hd.w.a = none → x.hd.w.n = 0 ∧ x.hd.w.c = 0) ∧ (x.hd.c.a = none → x.hd.c.n = 0 ∧ x.hd.c.c = 0)

def OpV.wf (x : OpV) : Prop := (Lit.int .i64 x.kind).wf = true ∧ (Lit.int .i64 x.a).wf = true ∧ (Lit.int .i64 x.b).wf = true ∧ (Lit.int .i64 x.c).wf = true ∧ x.t.wf

/-- A script lies in memory. -/
def OpsAt (w : World) (ao : Option Addr) (xs : List OpV) : Prop :=
  xs = [] ∨ ∃ b o, ao = some ⟨b, o, none⟩ ∧ ∀ i, i < xs.length → OpAt w b (o + i * 7) (xs.getD i OpV.zero)

theorem OpAt.below {w w' : World} {b o : Nat} {x : OpV} (h : OpAt w b o x) (hb : Below w.heap.size w w') : OpAt w' b o x :=
  ⟨cell_below hb (Nat.le_refl _) h.k0, cell_below hb (Nat.le_refl _) h.k1, cell_below hb (Nat.le_refl _) h.k2, cell_below hb (Nat.le_refl _) h.k3, cell_below hb (Nat.le_refl _) h.k4, cell_below hb (Nat.le_refl _) h.k5, cell_below hb (Nat.le_refl _) h.k6, h.tx.below hb, h.nl⟩
theorem OpsAt.below {w w' : World} {ao : Option Addr} {xs : List OpV} (h : OpsAt w ao xs) (hb : Below w.heap.size w w') : OpsAt w' ao xs := by
  rcases h with h | ⟨b, o, rfl, hx⟩
  · exact Or.inl h
  · exact Or.inr ⟨b, o, rfl, fun i hi => (hx i hi).below hb⟩

section
variable {H : Type} {enc : TypeId × Value → H} {w : World} {base : Nat} {spare : Nat → Bool} {held : Bool}

end

end Go.Proofs.Ytlheloogmgmjnaa
