import Derived.Test.YtlheloogmgmjnaaProg
import Derived.Test.YtlheloogmgmjnaaT03
import Derived.Deep.DeepMust
import Derived.Test.YtlheloogmgmjnaaT02
namespace Go.Proofs.Ytlheloogmgmjnaa
open Go.RowKit

theorem Try.info3 : (Try.prog.info? 3).map (fun i => (i.zero, i.size, i.bytes)) = some (some (.int .i64 0), 1, 8) := by kernel_rfl
theorem Try.info51 : (Try.prog.info? 51).map (fun i => (i.zero, i.size, i.bytes)) = some (some (.agg #[.int .i64 0, .int .i64 0, .int .i64 0, .int .i64 0]), 4, 32) := by kernel_rfl
def ints (xs : List Int) : List Value := xs.map (.int .i64)

theorem ints_oneCell' (xs : List Int) : ∀ v ∈ ints xs, v.oneCell' = true := by
  intro v hv; simp [ints] at hv; obtain ⟨z, _, rfl⟩ := hv; rfl

theorem ints_get (xs : List Int) (j : Nat) (v : Value) (h : (ints xs)[j]? = some v) : j < xs.length ∧ v = .int .i64 (xs.getD j 0) := by
  simp [ints] at h
  obtain ⟨z, hz, rfl⟩ := h
  have hj : j < xs.length := by
    rcases Nat.lt_or_ge j xs.length with h | h
    · exact h
    · rw [List.getElem?_eq_none h] at hz; cases hz
  exact ⟨hj, by simp [List.getD, hz]⟩

theorem IntsAt.src {w : World} {ao : Option Addr} {xs : List Int} (h : IntsAt w ao xs) (h0 : 0 < (ints xs).length) : ∃ ad, ao = some ad ∧ ∀ j v, (ints xs)[j]? = some v → w.cell? (ad.add j) = some v := by
  obtain ⟨b, o, rfl, hc, _⟩ := h.at (k := 0) (by simpa [ints] using h0)
  refine ⟨_, rfl, fun j v hv => ?_⟩
  obtain ⟨hj, rfl⟩ := ints_get xs j v hv
  rw [addr_add]; exact hc j hj

/-- The cells of instructions. -/
def insCells (cs : List Ins) : List Value := cs.flatMap fun x => [.int .i64 x.op, .int .i64 x.a, .int .i64 x.b, .int .i64 x.c]

theorem insCells_length (cs : List Ins) : (insCells cs).length = cs.length * 4 := by
  induction cs with
  | nil => rfl
  | cons x r ih => simp [insCells] at *; omega

theorem insCells_oneCell (cs : List Ins) : ∀ v ∈ insCells cs, v.oneCell' = true := by
  intro v hv; simp [insCells] at hv; obtain ⟨z, _, h | h | h | h⟩ := hv <;> subst h <;> rfl

theorem insCells_cons (x : Ins) (cs : List Ins) : insCells (x :: cs) = .int .i64 x.op :: .int .i64 x.a :: .int .i64 x.b :: .int .i64 x.c :: insCells cs := by simp [insCells]

theorem insCells_get (cs : List Ins) : ∀ i, i < cs.length → (insCells cs)[i * 4]? = some (.int .i64 (cs.getD i Ins.zero).op) ∧ (insCells cs)[i * 4 + 1]? = some (.int .i64 (cs.getD i Ins.zero).a) ∧
    (insCells cs)[i * 4 + 2]? = some (.int .i64 (cs.getD i Ins.zero).b) ∧ (insCells cs)[i * 4 + 3]? = some (.int .i64 (cs.getD i Ins.zero).c) := by
  induction cs with
  | nil => intro i hi; simp at hi
  | cons x r ih =>
    intro i hi
    rw [insCells_cons]
    cases i with
    | zero => simp
    | succ i =>
      have := ih i (by simpa using hi)
      rw [show (i + 1) * 4 = i * 4 + 4 by omega]
      simpa using this

theorem InsAt.src {w : World} {ao : Option Addr} {xs : List Ins} (h : InsAt w ao xs) (h0 : 0 < (insCells xs).length) : ∃ ad, ao = some ad ∧ ∀ j v, (insCells xs)[j]? = some v → w.cell? (ad.add j) = some v := by
  obtain ⟨b, o, rfl, hc, _⟩ := h.at (k := 0) (by rw [insCells_length] at h0; omega)
  refine ⟨_, rfl, fun j v hv => ?_⟩
  have hj : j < (insCells xs).length := (List.getElem?_eq_some_iff.1 hv).1
  rw [insCells_length] at hj
  obtain ⟨g0, g1, g2, g3⟩ := insCells_get xs (j / 4) (by omega)
  obtain ⟨c0, c1, c2, c3⟩ := hc (j / 4) (by omega)
  rw [addr_add]
  have hm : j = j / 4 * 4 ∨ j = j / 4 * 4 + 1 ∨ j = j / 4 * 4 + 2 ∨ j = j / 4 * 4 + 3 := by omega
  rcases hm with h | h | h | h
  · rw [← h] at g0 c0; rw [g0] at hv; cases hv; exact c0
  · rw [← h] at g1; rw [g1] at hv; cases hv; rw [show o + j = o + j / 4 * 4 + 1 by omega]; exact c1
  · rw [← h] at g2; rw [g2] at hv; cases hv; rw [show o + j = o + j / 4 * 4 + 2 by omega]; exact c2
  · rw [← h] at g3; rw [g3] at hv; cases hv; rw [show o + j = o + j / 4 * 4 + 3 by omega]; exact c3

theorem insCells_set (cs : List Ins) (x : Ins) : ∀ i, i < cs.length →
    ((((insCells cs).set (i * 4) (.int .i64 x.op)).set (i * 4 + 1) (.int .i64 x.a)).set (i * 4 + 2) (.int .i64 x.b)).set (i * 4 + 3) (.int .i64 x.c) = insCells (cs.set i x) := by
  induction cs with
  | nil => intro i hi; simp at hi
  | cons y r ih =>
    intro i hi
    cases i with
    | zero => simp [insCells_cons]
    | succ i =>
      have := ih i (by simpa using hi)
      rw [insCells_cons, List.set_cons_succ, insCells_cons, show (i + 1) * 4 = i * 4 + 4 by omega]
      simpa using this

end Go.Proofs.Ytlheloogmgmjnaa

namespace Go.Proofs.Ytlheloogmgmjnaa
open Go.RowKit

theorem ints_getD (xs : List Int) (k : Nat) (hk : k < xs.length) : (ints xs)[k]? = some (.int .i64 (xs.getD k 0)) := by
  simp [ints, List.getD, hk]

end Go.Proofs.Ytlheloogmgmjnaa

namespace Go.Proofs.Ytlheloogmgmjnaa
open Go.RowKit

def regOf (reg : List Int) (i : Int) : Int := reg.getD i.toNat 0

/-- What an instruction does with the registers, and with what the keys that are written will have. -/
def oneStep (x : Ins) (R : List Int) (hv : List Slot) (reg : List Int) (out : List Slot) : List Int × List Slot :=
  if x.op = 1 then (reg.set x.a.toNat x.b, out)
  else if x.op = 2 then (reg.set x.a.toNat (wrap64 (regOf reg x.b + regOf reg x.c)), out)
  else if x.op = 3 then (reg.set x.a.toNat (wrap64 (regOf reg x.b - regOf reg x.c)), out)
  else if x.op = 4 then (reg.set x.a.toNat (wrap64 (regOf reg x.b * regOf reg x.c)), out)
  else if x.op = 5 then (reg.set x.a.toNat (if regOf reg x.b < regOf reg x.c then 1 else 0), out)
  else if x.op = 6 then (reg.set x.a.toNat (hv.getD (regOf R x.b).toNat Slot.none).v, out)
  else if x.op = 7 then (reg.set x.a.toNat (if (hv.getD (regOf R x.b).toNat Slot.none).th then 1 else 0), out)
  else if x.op = 8 then (reg, out.set x.a.toNat ⟨regOf reg x.b, true⟩)
  else if x.op = 9 then (reg, out.set x.a.toNat ⟨0, false⟩)
  else (reg, out)

theorem ints_set (xs : List Int) (i : Nat) (y : Int) : (ints xs).set i (.int .i64 y) = ints (xs.set i y) := by
  simp [ints, List.map_set]

end Go.Proofs.Ytlheloogmgmjnaa
