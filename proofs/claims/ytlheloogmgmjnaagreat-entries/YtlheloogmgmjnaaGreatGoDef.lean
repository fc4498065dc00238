import Derived.Test.YtlheloogmgmjnaaGreatOneAll
namespace Go.Proofs.YtlheloogmgmjnaaGreat
open Go.RowKit

/-- Where the code goes on. -/
def nextPc (x : Ins) (reg : List Int) (pc : Nat) : Nat := (if x.op = 10 ∧ regOf reg x.a = 0 then pc + x.b.toNat else pc) + 1
def nextSaid (x : Ins) (said : List Bool) : List Bool := if x.op = 8 ∨ x.op = 9 then said.set x.a.toNat true else said

/-- How a transaction goes on. -/
def goFrom (t : Tx) (hv bef : List Slot) : (fuel : Nat) → (pc : Nat) → (reg : List Int) → (out : List Slot) → (did : List Nat) → (said : List Bool) → Crs
  | 0, _, reg, out, did, said => ⟨did, false, reg.getD 0 0, out, said⟩
  | f + 1, pc, reg, out, did, said =>
    if pc < t.c.length then
      if (t.c.getD pc Ins.zero).op = 11 then ⟨did ++ [pc], true, reg.getD 0 0, bef, List.replicate t.w.length false⟩
      else goFrom t hv bef f (nextPc (t.c.getD pc Ins.zero) reg pc) (oneStep (t.c.getD pc Ins.zero) t.r hv reg out).1 (oneStep (t.c.getD pc Ins.zero) t.r hv reg out).2 (did ++ [pc]) (nextSaid (t.c.getD pc Ins.zero) said)
    else ⟨did, false, reg.getD 0 0, out, said⟩

theorem lt_nextPc (x : Ins) (reg : List Int) (pc : Nat) : pc < nextPc x reg pc := by unfold nextPc; split <;> omega

theorem goFrom_fuel (t : Tx) (hv bef : List Slot) : ∀ (f g pc : Nat) (reg : List Int) (out : List Slot) (did : List Nat) (said : List Bool), t.c.length ≤ pc + f → t.c.length ≤ pc + g → goFrom t hv bef f pc reg out did said = goFrom t hv bef g pc reg out did said := by
  intro f
  induction f with
  | zero =>
    intro g pc reg out did said hf hg
    cases g with
    | zero => rfl
    | succ g => simp only [goFrom]; rw [if_neg (by omega)]
  | succ f ih =>
    intro g pc reg out did said hf hg
    cases g with
    | zero => simp only [goFrom]; rw [if_neg (by omega)]
    | succ g =>
      simp only [goFrom]
      by_cases h : pc < t.c.length
      · rw [if_pos h, if_pos h]
        by_cases h2 : (t.c.getD pc Ins.zero).op = 11
        · rw [if_pos h2, if_pos h2]
        · rw [if_neg h2, if_neg h2]
          have := lt_nextPc (t.c.getD pc Ins.zero) reg pc
          exact ih g _ _ _ _ _ (by omega) (by omega)
      · rw [if_neg h, if_neg h]

def goAt (t : Tx) (hv bef : List Slot) (pc : Nat) (reg : List Int) (out : List Slot) (did : List Nat) (said : List Bool) : Crs := goFrom t hv bef t.c.length pc reg out did said

theorem goAt_end {t : Tx} {hv bef : List Slot} {pc : Nat} {reg : List Int} {out : List Slot} {did : List Nat} {said : List Bool} (h : ¬ pc < t.c.length) : goAt t hv bef pc reg out did said = ⟨did, false, reg.getD 0 0, out, said⟩ := by
  unfold goAt
  rw [goFrom_fuel t hv bef t.c.length 0 pc reg out did said (by omega) (by omega)]
  rfl
theorem goAt_abort {t : Tx} {hv bef : List Slot} {pc : Nat} {reg : List Int} {out : List Slot} {did : List Nat} {said : List Bool} (h : pc < t.c.length) (h2 : (t.c.getD pc Ins.zero).op = 11) : goAt t hv bef pc reg out did said = ⟨did ++ [pc], true, reg.getD 0 0, bef, List.replicate t.w.length false⟩ := by
  unfold goAt
  rw [goFrom_fuel t hv bef t.c.length (t.c.length + 1) pc reg out did said (by omega) (by omega)]
  simp only [goFrom]; rw [if_pos h, if_pos h2]
theorem goAt_next {t : Tx} {hv bef : List Slot} {pc : Nat} {reg : List Int} {out : List Slot} {did : List Nat} {said : List Bool} (h : pc < t.c.length) (h2 : (t.c.getD pc Ins.zero).op ≠ 11) :
    goAt t hv bef pc reg out did said = goAt t hv bef (nextPc (t.c.getD pc Ins.zero) reg pc) (oneStep (t.c.getD pc Ins.zero) t.r hv reg out).1 (oneStep (t.c.getD pc Ins.zero) t.r hv reg out).2 (did ++ [pc]) (nextSaid (t.c.getD pc Ins.zero) said) := by
  unfold goAt
  rw [goFrom_fuel t hv bef t.c.length (t.c.length + 1) pc reg out did said (by omega) (by omega)]
  simp only [goFrom]; rw [if_pos h, if_neg h2]

/-- What the keys that are written have ahead. -/
def befOf (t : Tx) (hv : List Slot) : List Slot := t.w.map fun k => hv.getD k.toNat Slot.none
def goCrs (t : Tx) (hv : List Slot) : Crs := goAt t hv (befOf t hv) 0 (List.replicate 6 0) (befOf t hv) [] (List.replicate t.w.length false)

theorem oneStep_len (x : Ins) (R : List Int) (hv : List Slot) (reg : List Int) (out : List Slot) : (oneStep x R hv reg out).1.length = reg.length ∧ (oneStep x R hv reg out).2.length = out.length := by
  unfold oneStep; repeat' split
  all_goals simp
theorem nextSaid_len (x : Ins) (said : List Bool) : (nextSaid x said).length = said.length := by unfold nextSaid; split <;> simp

theorem goFrom_len (t : Tx) (hv bef : List Slot) (hb : bef.length = t.w.length) : ∀ (f pc : Nat) (reg : List Int) (out : List Slot) (did : List Nat) (said : List Bool), out.length = t.w.length → said.length = t.w.length → did.length ≤ pc →
    (goFrom t hv bef f pc reg out did said).ws.length = t.w.length ∧ (goFrom t hv bef f pc reg out did said).said.length = t.w.length := by
  intro f
  induction f with
  | zero => intro pc reg out did said h1 h2 _; exact ⟨h1, h2⟩
  | succ f ih =>
    intro pc reg out did said h1 h2 h3
    simp only [goFrom]
    split
    · split
      · exact ⟨hb, by simp⟩
      · have := lt_nextPc (t.c.getD pc Ins.zero) reg pc
        exact ih _ _ _ _ _ (by rw [(oneStep_len _ _ _ _ _).2]; exact h1) (by rw [nextSaid_len]; exact h2) (by rw [List.length_append]; simp only [List.length_singleton]; omega)
    · exact ⟨h1, h2⟩
theorem goCrs_len (t : Tx) (hv : List Slot) : (goCrs t hv).ws.length = t.w.length ∧ (goCrs t hv).said.length = t.w.length := by
  unfold goCrs goAt
  exact goFrom_len t hv _ (by simp [befOf]) _ _ _ _ _ _ (by simp [befOf]) (by simp) (Nat.le_refl _)

end Go.Proofs.YtlheloogmgmjnaaGreat
