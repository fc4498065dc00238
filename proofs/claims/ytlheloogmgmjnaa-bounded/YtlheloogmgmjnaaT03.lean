import Derived.Test.YtlheloogmgmjnaaT01
import Derived.Laws.CopyOwn
import Derived.Deep.OwnRows
namespace Go.Proofs.Ytlheloogmgmjnaa
open Go.RowKit

theorem addr_add (b o i : Nat) : (⟨b, o, none⟩ : Addr).add i = ⟨b, o + i, none⟩ := by unfold Addr.add; split <;> simp_all

/-- Block g is a row of cells of type t, none frozen, that hold cs. -/
def RowAt (w : World) (g : Nat) (t : TypeId) (cs : List Value) : Prop := w.heap[g]? = some (.cells cs.toArray t (0, 0))

theorem RowAt.lt {w : World} {g : Nat} {t : TypeId} {cs : List Value} (h : RowAt w g t cs) : g < w.heap.size := by
  by_cases hb : g < w.heap.size
  · exact hb
  · have : w.heap[g]? = none := Array.getElem?_eq_none (by omega)
    simp [RowAt, this] at h

theorem RowAt.cell {w : World} {g : Nat} {t : TypeId} {cs : List Value} (h : RowAt w g t cs) {i : Nat} (hi : i < cs.length) : w.cell? ⟨g, i, none⟩ = some cs[i] := by
  unfold RowAt at h; simp [World.cell?, h, hi]

theorem RowAt.cell' {w : World} {g : Nat} {t : TypeId} {cs : List Value} (h : RowAt w g t cs) {i : Nat} {v : Value} (hi : cs[i]? = some v) : w.cell? ⟨g, i, none⟩ = some v := by
  unfold RowAt at h; simp [World.cell?, h, hi]

theorem RowAt.frozen {w : World} {g : Nat} {t : TypeId} {cs : List Value} (h : RowAt w g t cs) (i : Nat) : w.frozen? ⟨g, i, none⟩ = false := by
  unfold RowAt at h; simp [World.frozen?, h]

theorem RowAt.below {B : Nat} {w w' : World} {g : Nat} {t : TypeId} {cs : List Value} (h : RowAt w g t cs) (hb : Below B w w') (hg : g < B) : RowAt w' g t cs := by
  unfold RowAt at *; rw [hb.block g hg]; exact h

theorem RowAt.below' {w w' : World} {g : Nat} {t : TypeId} {cs : List Value} (h : RowAt w g t cs) (hb : Below w.heap.size w w') : RowAt w' g t cs := h.below hb h.lt

theorem RowAt.set {w : World} {g : Nat} {t : TypeId} {cs : List Value} (h : RowAt w g t cs) (i : Nat) (v : Value) : RowAt (w.setCell ⟨g, i, none⟩ v) g t (cs.set i v) := by
  unfold RowAt at *
  simp only [World.setCell, Array.getElem?_modify, h]
  simp

theorem RowAt.setOther {w : World} {g : Nat} {t : TypeId} {cs : List Value} (h : RowAt w g t cs) {a : Addr} (ha : g ≠ a.block) (v : Value) : RowAt (w.setCell a v) g t cs := by
  unfold RowAt at *; rw [Below.heap_setCell _ _ _ _ ha]; exact h

theorem RowAt.drewN {w : World} {g : Nat} {t : TypeId} {cs : List Value} (h : RowAt w g t cs) (n : Nat) : RowAt (w.drewN n) g t cs := h

theorem rowAt_alloc (w : World) (cs : List Value) (t : TypeId) : RowAt (w.alloc (.cells cs.toArray t)) w.heap.size t cs := by
  show (w.heap.push _)[w.heap.size]? = _; simp

theorem RowAt.alloc {w : World} {g : Nat} {t : TypeId} {cs : List Value} (h : RowAt w g t cs) (o : Obj) : RowAt (w.alloc o) g t cs := h.below' (below_alloc1 _ _)

end Go.Proofs.Ytlheloogmgmjnaa

namespace Go.Proofs.Ytlheloogmgmjnaa
open Go.RowKit

/-- Of what was there only blocks of D may have turned. -/
structure Chg (w w' : World) (D : Nat → Prop) : Prop where
  os : w'.os = w.os
  tape : w'.tape = w.tape
  output : w'.output = w.output
  size : w.heap.size ≤ w'.heap.size
  block : ∀ k, k < w.heap.size → ¬ D k → w'.heap[k]? = w.heap[k]?

theorem Chg.refl (w : World) (D : Nat → Prop) : Chg w w D := ⟨rfl, rfl, rfl, Nat.le_refl _, fun _ _ _ => rfl⟩

theorem Chg.trans {w w' w'' : World} {D : Nat → Prop} (h : Chg w w' D) (k : Chg w' w'' D) : Chg w w'' D :=
  ⟨k.os.trans h.os, k.tape.trans h.tape, k.output.trans h.output, Nat.le_trans h.size k.size, fun i hi hd => (k.block i (Nat.lt_of_lt_of_le hi h.size) hd).trans (h.block i hi hd)⟩

theorem Chg.mono {w w' : World} {D E : Nat → Prop} (h : Chg w w' D) (hd : ∀ k, k < w.heap.size → D k → E k) : Chg w w' E :=
  ⟨h.os, h.tape, h.output, h.size, fun i hi he => h.block i hi (fun hD => he (hd i hi hD))⟩

theorem Chg.of_below {w w' : World} (h : Below w.heap.size w w') (D : Nat → Prop) : Chg w w' D :=
  ⟨h.os, h.tape, h.output, h.size, fun i hi _ => h.block i hi⟩

theorem Chg.below {w w' : World} {D : Nat → Prop} (h : Chg w w' D) (hd : ∀ k, k < w.heap.size → ¬ D k) : Below w.heap.size w w' :=
  ⟨h.os, h.tape, h.output, h.size, fun i hi => h.block i hi (hd i hi)⟩

/-- .. seen from an older world: blocks from B on may have turned. -/
theorem Chg.belowB {B : Nat} {w w' : World} {D : Nat → Prop} (h : Chg w w' D) (hd : ∀ k, D k → B ≤ k) (hB : B ≤ w.heap.size) : Below B w w' :=
  ⟨h.os, h.tape, h.output, h.size, fun i hi => h.block i (by omega) (fun hD => by have := hd i hD; omega)⟩

theorem Chg.setCell (w : World) (a : Addr) (v : Value) : Chg w (w.setCell a v) (· = a.block) :=
  ⟨rfl, rfl, rfl, by simp [World.setCell], fun k _ hk => Below.heap_setCell _ _ _ _ hk⟩

theorem Chg.put {w w' : World} {D : Nat → Prop} (h : Chg w w' D) (a : Addr) (v : Value) (ha : D a.block) : Chg w (w'.setCell a v) D :=
  h.trans ((Chg.setCell w' a v).mono (fun k _ hk => by rw [hk]; exact ha))

theorem Chg.drewN (w : World) (n : Nat) (D : Nat → Prop) : Chg w (w.drewN n) D := ⟨rfl, rfl, rfl, Nat.le_refl _, fun _ _ _ => rfl⟩

theorem Chg.drew {w w' : World} {D : Nat → Prop} (h : Chg w w' D) : Chg w w'.drew D := ⟨h.os, h.tape, h.output, h.size, h.block⟩

theorem Chg.grown {w w' : World} {row : Option Nat} (h : w.grownBy w' row) : Chg w w' (fun k => some k = row) :=
  ⟨h.os, h.tape, h.output, h.size, fun k hk hd => h.block k hk hd⟩

theorem RowAt.drew {w : World} {g : Nat} {t : TypeId} {cs : List Value} (h : RowAt w g t cs) : RowAt w.drew g t cs := h

theorem size_setCell_eq (w : World) (a : Addr) (v : Value) : (w.setCell a v).heap.size = w.heap.size := by simp [World.setCell]

theorem size_alloc_eq (w : World) (o : Obj) : (w.alloc o).heap.size = w.heap.size + 1 := by simp

theorem RowAt.chg {w w' : World} {D : Nat → Prop} {g : Nat} {t : TypeId} {cs : List Value} (h : RowAt w g t cs) (hc : Chg w w' D) (hg : ¬ D g) : RowAt w' g t cs := by
  unfold RowAt at *; rw [hc.block g (RowAt.lt h) hg]; exact h

theorem cell_chg {w w' : World} {D : Nat → Prop} (hc : Chg w w' D) {b o : Nat} {v : Value} (h : w.cell? ⟨b, o, none⟩ = some v) (hb : ¬ D b) : w'.cell? ⟨b, o, none⟩ = some v := by
  rw [World.cell?_of_block (w := w) (a := ⟨b, o, none⟩) (hc.block b (lt_of_cell h) hb)]; exact h

theorem IntsAt.chg {w w' : World} {D : Nat → Prop} {ao : Option Addr} {xs : List Int} (h : IntsAt w ao xs) (hc : Chg w w' D) (hd : ∀ a, ao = some a → ¬ D a.block) : IntsAt w' ao xs := by
  rcases h with h | ⟨b, o, rfl, hx⟩
  · exact Or.inl h
  · exact Or.inr ⟨b, o, rfl, fun i hi => cell_chg hc (hx i hi) (hd _ rfl)⟩

theorem InsAt.chg {w w' : World} {D : Nat → Prop} {ao : Option Addr} {xs : List Ins} (h : InsAt w ao xs) (hc : Chg w w' D) (hd : ∀ a, ao = some a → ¬ D a.block) : InsAt w' ao xs := by
  rcases h with h | ⟨b, o, rfl, hx⟩
  · exact Or.inl h
  · refine Or.inr ⟨b, o, rfl, fun i hi => ?_⟩
    obtain ⟨h1, h2, h3, h4⟩ := hx i hi
    exact ⟨cell_chg hc h1 (hd _ rfl), cell_chg hc h2 (hd _ rfl), cell_chg hc h3 (hd _ rfl), cell_chg hc h4 (hd _ rfl)⟩

/-- What a key has: a value, or none. -/
structure Slot where
  v : Int
  th : Bool
def Slot.none : Slot := ⟨0, false⟩
def slotCells (l : List Slot) : List Value := l.flatMap fun s => [.int .i64 s.v, .bool s.th]

theorem slotCells_cons (x : Slot) (l : List Slot) : slotCells (x :: l) = .int .i64 x.v :: .bool x.th :: slotCells l := by simp [slotCells]
theorem slotCells_get (l : List Slot) : ∀ i, i < l.length → (slotCells l)[i * 2]? = some (.int .i64 (l.getD i Slot.none).v) ∧ (slotCells l)[i * 2 + 1]? = some (.bool (l.getD i Slot.none).th) := by
  induction l with
  | nil => intro i hi; simp at hi
  | cons x r ih =>
    intro i hi
    rw [slotCells_cons]
    cases i with
    | zero => simp
    | succ i =>
      have := ih i (by simpa using hi)
      rw [show (i + 1) * 2 = i * 2 + 2 by omega]
      simpa using this
/-- Slots lie from an address on, two cells each. -/
def SlotsAt (w : World) (ao : Option Addr) (xs : List Slot) : Prop :=
  xs = [] ∨ ∃ b o, ao = some ⟨b, o, none⟩ ∧ ∀ i, i < xs.length → w.cell? ⟨b, o + i * 2, none⟩ = some (.int .i64 (xs.getD i Slot.none).v) ∧ w.cell? ⟨b, o + i * 2 + 1, none⟩ = some (.bool (xs.getD i Slot.none).th)

theorem SlotsAt.chg {w w' : World} {D : Nat → Prop} {ao : Option Addr} {xs : List Slot} (h : SlotsAt w ao xs) (hc : Chg w w' D) (hd : ∀ a, ao = some a → ¬ D a.block) : SlotsAt w' ao xs := by
  rcases h with h | ⟨b, o, rfl, hx⟩
  · exact Or.inl h
  · refine Or.inr ⟨b, o, rfl, fun i hi => ?_⟩
    obtain ⟨h1, h2⟩ := hx i hi
    exact ⟨cell_chg hc h1 (hd _ rfl), cell_chg hc h2 (hd _ rfl)⟩

theorem SlotsAt.below {w w' : World} {ao : Option Addr} {xs : List Slot} (h : SlotsAt w ao xs) (hb : Below w.heap.size w w') : SlotsAt w' ao xs := h.chg (Chg.of_below hb (fun _ => False)) (fun _ _ => id)

theorem SlotsAt.at {w : World} {ao : Option Addr} {xs : List Slot} (h : SlotsAt w ao xs) {k : Nat} (hk : k < xs.length) :
    ∃ b o, ao = some ⟨b, o, none⟩ ∧ (∀ i, i < xs.length → w.cell? ⟨b, o + i * 2, none⟩ = some (.int .i64 (xs.getD i Slot.none).v) ∧ w.cell? ⟨b, o + i * 2 + 1, none⟩ = some (.bool (xs.getD i Slot.none).th)) ∧ b < w.heap.size := by
  rcases h with h | ⟨b, o, rfl, hc⟩
  · subst h; simp at hk
  · exact ⟨b, o, rfl, hc, lt_of_cell (hc k hk).1⟩

theorem RowAt.slots {w : World} {g : Nat} {t : TypeId} {xs : List Slot} (h : RowAt w g t (slotCells xs)) : SlotsAt w (some ⟨g, 0, none⟩) xs := by
  refine Or.inr ⟨g, 0, rfl, fun i hi => ?_⟩
  rw [Nat.zero_add]
  obtain ⟨c0, c1⟩ := slotCells_get xs i hi
  exact ⟨h.cell' c0, h.cell' c1⟩

end Go.Proofs.Ytlheloogmgmjnaa

namespace Go.Proofs.Ytlheloogmgmjnaa
open Go.RowKit

/-- A value of as many cells as a whole block goes over that block. -/
theorem run_storeVar_row {P : Program} (w : World) (g : Nat) (ty t : TypeId) (v : Value) (cs cur : List Value) (hg : RowAt w g t cur) (hv : v.cells = cs.toArray) (hl : cs.length = cur.length)
    (hi : (P.info? ty).map (·.size) = some cs.length) (h1 : ∀ v ∈ cs, v.oneCell' = true) :
    (storeVar ty ⟨g, 0, none⟩ v).run P w = .ok () (w.setRow g cs.toArray) := by
  have hst := run_storeCells_at P g 0 t cs 0 cur.toArray w hg (by simp [hl]) h1
  have e : (cur.toArray.toList.take (0 + 0) ++ cs ++ cur.toArray.toList.drop (0 + 0 + cs.length)) = cs := by simp [hl]
  rw [e] at hst
  cases hq : P.info? ty with
  | none => simp [hq] at hi
  | some i =>
    have hi' : i.size = cs.length := by simpa [hq] using hi
    simp [storeVar, sizeOf, typeInfo, hq, hv, hi', hst]

theorem size_setRow (w : World) (g : Nat) (cs : Array Value) : (w.setRow g cs).heap.size = w.heap.size := by simp [World.setRow]
theorem chg_setRow (w : World) (g : Nat) (cs : Array Value) : Chg w (w.setRow g cs) (· = g) :=
  have h : Below 0 w (w.setRow g cs) := below_setRow (Below.refl _ _) (Nat.zero_le _) cs
  ⟨h.os, h.tape, h.output, by rw [size_setRow]; exact Nat.le_refl _, fun k _ hk => by simp [World.setRow, Array.getElem?_modify, Ne.symm hk]⟩

/-- The store of a whole row, in a region: the world behind it is a letter. -/
theorem wp_store_row {P : Program} {op : Oper} {a : Act} {w : World} {K : Act → World → Prop} {Q : Exit → Act → World → Prop} (ty : TypeId) (x y : Operand) (ho : op.op = .store ty x y)
    (g : Nat) (hx : a.eval x = .pointer (some ⟨g, 0, none⟩)) (cs cur : List Value) (t : TypeId) (hg : RowAt w g t cur) (hy : (a.eval y).cells = cs.toArray) (hl : cs.length = cur.length)
    (hi : (P.info? ty).map (·.size) = some cs.length) (h1 : ∀ v ∈ cs, v.oneCell' = true)
    (h : ∀ w', RowAt w' g t cs → Chg w w' (· = g) → w'.heap.size = w.heap.size → K (a.put op.dst undef) w') : op.wp P a w K Q := by
  unfold Oper.wp execOp
  simp only [ho, hx, Instr.storeAt, Instr.sureAddr, Sem.run_bind, Sem.run_pure, Result.andThen_ok, run_storeVar_row w g ty t _ cs cur hg hy hl hi h1]
  refine h _ ?_ (chg_setRow w g _) (size_setRow w g _)
  exact setRow_heap w g cur.toArray cs.toArray t (0, 0) hg

/-- A new variable, in a region: the world behind it is a letter. -/
theorem wp_alloc_row {P : Program} {op : Oper} {a : Act} {w : World} {K : Act → World → Prop} {Q : Exit → Act → World → Prop} (ty : TypeId) (ho : op.op = .alloc ty) (z : Value) (zs : List Value)
    (hz : (P.info? ty).bind (·.zero) = some z) (hc : z.cells = zs.toArray)
    (h : ∀ w', RowAt w' w.heap.size ty zs → Below w.heap.size w w' → w'.heap.size = w.heap.size + 1 → K (a.put op.dst (.pointer (some ⟨w.heap.size, 0, none⟩))) w') : op.wp P a w K Q := by
  obtain ⟨i, hi, hiz⟩ := Option.bind_eq_some_iff.1 hz
  have hrun : (execOp a.eval op).run P w = .ok (.value (.pointer (some ⟨w.heap.size, 0, none⟩))) (w.alloc (.cells zs.toArray ty)) := by
    unfold execOp
    simp [ho, Instr.alloc, zeroValue, typeInfo, hi, hiz, newVar, newRow, hc]
  unfold Oper.wp
  rw [hrun]
  exact h _ (rowAt_alloc w zs ty) (below_alloc1 _ _) (by simp)

end Go.Proofs.Ytlheloogmgmjnaa
