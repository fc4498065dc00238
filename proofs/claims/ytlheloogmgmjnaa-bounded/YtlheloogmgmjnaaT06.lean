import Derived.Test.YtlheloogmgmjnaaT02
import Derived.Deep.RegionHeld
import Derived.Test.YtlheloogmgmjnaaT03
import Derived.Test.YtlheloogmgmjnaaT05
import Derived.Deep.DeepMust
namespace Go.Proofs.Ytlheloogmgmjnaa
open Go.RowKit

theorem RowAt.ints {w : World} {g : Nat} {t : TypeId} {xs ys : List Int} (h : RowAt w g t (ints (xs ++ ys))) : IntsAt w (some ⟨g, 0, none⟩) xs := by
  refine Or.inr ⟨g, 0, rfl, fun i hi => ?_⟩
  rw [Nat.zero_add]
  have := h.cell' (ints_getD (xs ++ ys) i (by simp; omega))
  rw [this]
  simp [List.getD, List.getElem?_append_left hi]

theorem RowAt.instrs {w : World} {g : Nat} {t : TypeId} {xs ys : List Ins} (h : RowAt w g t (insCells (xs ++ ys))) : InsAt w (some ⟨g, 0, none⟩) xs := by
  refine Or.inr ⟨g, 0, rfl, fun i hi => ?_⟩
  rw [Nat.zero_add]
  obtain ⟨c0, c1, c2, c3⟩ := insCells_get (xs ++ ys) i (by simp; omega)
  have e : (xs ++ ys).getD i Ins.zero = xs.getD i Ins.zero := by simp [List.getD, List.getElem?_append_left hi]
  rw [e] at c0 c1 c2 c3
  exact ⟨h.cell' c0, h.cell' c1, h.cell' c2, h.cell' c3⟩

end Go.Proofs.Ytlheloogmgmjnaa

namespace Go.Proofs.Ytlheloogmgmjnaa
open Go.RowKit

/-- A block of so many numbers, whatever they are. -/
def IntRow (w : World) (g L : Nat) : Prop := ∃ xs : List Int, xs.length = L ∧ RowAt w g 3 (ints xs)
/-- A block of so many instructions. -/
def InsRow (w : World) (g L : Nat) : Prop := ∃ cs : List Ins, cs.length = L ∧ RowAt w g 51 (insCells cs)

theorem ints_set' (xs : List Int) (i : Nat) (y : Int) : (ints xs).set i (.int .i64 y) = ints (xs.set i y) := by simp [ints, List.map_set]

theorem IntRow.put {w : World} {g L : Nat} (h : IntRow w g L) (b i : Nat) (v : Int) : IntRow (w.setCell ⟨b, i, none⟩ (.int .i64 v)) g L := by
  obtain ⟨xs, hl, hr⟩ := h
  by_cases hb : g = b
  · subst hb
    refine ⟨xs.set i v, by simpa using hl, ?_⟩
    rw [← ints_set']; exact hr.set i _
  · exact ⟨xs, hl, hr.setOther hb _⟩

theorem IntRow.other {w : World} {g L : Nat} (h : IntRow w g L) {a : Addr} (ha : g ≠ a.block) (v : Value) : IntRow (w.setCell a v) g L := by
  obtain ⟨xs, hl, hr⟩ := h; exact ⟨xs, hl, hr.setOther ha _⟩
theorem InsRow.other {w : World} {g L : Nat} (h : InsRow w g L) {a : Addr} (ha : g ≠ a.block) (v : Value) : InsRow (w.setCell a v) g L := by
  obtain ⟨xs, hl, hr⟩ := h; exact ⟨xs, hl, hr.setOther ha _⟩

theorem InsRow.put {w : World} {g L : Nat} (h : InsRow w g L) (i : Nat) (hi : i < L) (x : Ins) :
    InsRow ((((w.setCell ⟨g, i * 4, none⟩ (.int .i64 x.op)).setCell ⟨g, i * 4 + 1, none⟩ (.int .i64 x.a)).setCell ⟨g, i * 4 + 2, none⟩ (.int .i64 x.b)).setCell ⟨g, i * 4 + 3, none⟩ (.int .i64 x.c)) g L := by
  obtain ⟨cs, hl, hr⟩ := h
  refine ⟨cs.set i x, by simpa using hl, ?_⟩
  rw [← insCells_set cs x i (by omega)]
  exact (((hr.set _ _).set _ _).set _ _).set _ _

theorem IntRow.cell {w : World} {g L : Nat} (h : IntRow w g L) {k : Nat} (hk : k < L) : ∃ z : Int, w.cell? ⟨g, k, none⟩ = some (.int .i64 z) := by
  obtain ⟨xs, hl, hr⟩ := h; exact ⟨_, hr.cell' (ints_getD xs k (by omega))⟩
theorem IntRow.frozen {w : World} {g L : Nat} (h : IntRow w g L) (k : Nat) : w.frozen? ⟨g, k, none⟩ = false := by obtain ⟨xs, hl, hr⟩ := h; exact hr.frozen k
theorem InsRow.frozen {w : World} {g L : Nat} (h : InsRow w g L) (k : Nat) : w.frozen? ⟨g, k, none⟩ = false := by obtain ⟨xs, hl, hr⟩ := h; exact hr.frozen k
theorem InsRow.cells {w : World} {g L : Nat} (h : InsRow w g L) {k : Nat} (hk : k < L) : ∃ x : Ins, w.cell? ⟨g, k * 4, none⟩ = some (.int .i64 x.op) ∧ w.cell? ⟨g, k * 4 + 1, none⟩ = some (.int .i64 x.a) ∧ w.cell? ⟨g, k * 4 + 2, none⟩ = some (.int .i64 x.b) ∧ w.cell? ⟨g, k * 4 + 3, none⟩ = some (.int .i64 x.c) := by
  obtain ⟨cs, hl, hr⟩ := h
  obtain ⟨c0, c1, c2, c3⟩ := insCells_get cs k (by omega)
  exact ⟨_, hr.cell' c0, hr.cell' c1, hr.cell' c2, hr.cell' c3⟩
theorem IntRow.below {w w' : World} {g L : Nat} (h : IntRow w g L) (hb : Below w.heap.size w w') : IntRow w' g L := by obtain ⟨xs, hl, hr⟩ := h; exact ⟨xs, hl, hr.below' hb⟩
theorem InsRow.below {w w' : World} {g L : Nat} (h : InsRow w g L) (hb : Below w.heap.size w w') : InsRow w' g L := by obtain ⟨xs, hl, hr⟩ := h; exact ⟨xs, hl, hr.below' hb⟩
theorem IntRow.lt {w : World} {g L : Nat} (h : IntRow w g L) : g < w.heap.size := by obtain ⟨xs, hl, hr⟩ := h; exact hr.lt
theorem InsRow.lt {w : World} {g L : Nat} (h : InsRow w g L) : g < w.heap.size := by obtain ⟨xs, hl, hr⟩ := h; exact hr.lt

end Go.Proofs.Ytlheloogmgmjnaa
