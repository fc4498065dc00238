import Derived.Test.YtlheloogmgmjnaaGreatRow
namespace Go.Proofs.YtlheloogmgmjnaaGreat
open Go.RowKit

/-- Of what was there only blocks of D may have turned. -/
structure Chg (w w' : World) (D : Nat → Prop) : Prop where
  os : w'.os = w.os
  tape : w'.tape = w.tape
  output : w'.output = w.output
  size : w.heap.size ≤ w'.heap.size
  block : ∀ k, k < w.heap.size → ¬ D k → w'.heap[k]? = w.heap[k]?

theorem Chg.refl (w : World) (D : Nat → Prop) : Chg w w D := ⟨rfl, rfl, rfl, Nat.le_refl _, fun _ _ _ => rfl⟩

theorem Chg.trans {w w' w'' : World} {D : Nat → Prop} (h : Chg w w' D) (k : Chg w' w'' D) : Chg w w'' D :=
  ⟨k.os.trans h.os, k.tape.trans h.tape, k.output.trans h.output, Nat.le_trans h.size k.size, fun i hi hd => (k.block i (Nat.lt_of_lt_of_le hi h.size) hd).trans (h.block i hi hd)⟩

theorem Chg.mono {w w' : World} {D E : Nat → Prop} (h : Chg w w' D) (hd : ∀ k, k < w.heap.size → D k → E k) : Chg w w' E :=
  ⟨h.os, h.tape, h.output, h.size, fun i hi he => h.block i hi (fun hD => he (hd i hi hD))⟩

theorem Chg.of_below {w w' : World} (h : Below w.heap.size w w') (D : Nat → Prop) : Chg w w' D :=
  ⟨h.os, h.tape, h.output, h.size, fun i hi _ => h.block i hi⟩

theorem Chg.below {w w' : World} {D : Nat → Prop} (h : Chg w w' D) (hd : ∀ k, k < w.heap.size → ¬ D k) : Below w.heap.size w w' :=
  ⟨h.os, h.tape, h.output, h.size, fun i hi => h.block i hi (hd i hi)⟩

/-- .. seen from an older world: blocks from B on may have turned. -/
theorem Chg.belowB {B : Nat} {w w' : World} {D : Nat → Prop} (h : Chg w w' D) (hd : ∀ k, D k → B ≤ k) (hB : B ≤ w.heap.size) : Below B w w' :=
  ⟨h.os, h.tape, h.output, h.size, fun i hi => h.block i (by omega) (fun hD => by have := hd i hD; omega)⟩

theorem Chg.setCell (w : World) (a : Addr) (v : Value) : Chg w (w.setCell a v) (· = a.block) :=
  ⟨rfl, rfl, rfl, by simp [World.setCell], fun k _ hk => Below.heap_setCell _ _ _ _ hk⟩

theorem Chg.put {w w' : World} {D : Nat → Prop} (h : Chg w w' D) (a : Addr) (v : Value) (ha : D a.block) : Chg w (w'.setCell a v) D :=
  h.trans ((Chg.setCell w' a v).mono (fun k _ hk => by rw [hk]; exact ha))

theorem Chg.drewN (w : World) (n : Nat) (D : Nat → Prop) : Chg w (w.drewN n) D := ⟨rfl, rfl, rfl, Nat.le_refl _, fun _ _ _ => rfl⟩

theorem Chg.drew {w w' : World} {D : Nat → Prop} (h : Chg w w' D) : Chg w w'.drew D := ⟨h.os, h.tape, h.output, h.size, h.block⟩

theorem Chg.grown {w w' : World} {row : Option Nat} (h : w.grownBy w' row) : Chg w w' (fun k => some k = row) :=
  ⟨h.os, h.tape, h.output, h.size, fun k hk hd => h.block k hk hd⟩

theorem RowAt.drew {w : World} {g : Nat} {t : TypeId} {cs : List Value} (h : RowAt w g t cs) : RowAt w.drew g t cs := h

theorem size_setCell_eq (w : World) (a : Addr) (v : Value) : (w.setCell a v).heap.size = w.heap.size := by simp [World.setCell]

theorem size_alloc_eq (w : World) (o : Obj) : (w.alloc o).heap.size = w.heap.size + 1 := by simp

theorem RowAt.chg {w w' : World} {D : Nat → Prop} {g : Nat} {t : TypeId} {cs : List Value} (h : RowAt w g t cs) (hc : Chg w w' D) (hg : ¬ D g) : RowAt w' g t cs := by
  unfold RowAt at *; rw [hc.block g (RowAt.lt h) hg]; exact h

theorem cell_chg {w w' : World} {D : Nat → Prop} (hc : Chg w w' D) {b o : Nat} {v : Value} (h : w.cell? ⟨b, o, none⟩ = some v) (hb : ¬ D b) : w'.cell? ⟨b, o, none⟩ = some v := by
  rw [World.cell?_of_block (w := w) (a := ⟨b, o, none⟩) (hc.block b (lt_of_cell h) hb)]; exact h

theorem IntsAt.chg {w w' : World} {D : Nat → Prop} {ao : Option Addr} {xs : List Int} (h : IntsAt w ao xs) (hc : Chg w w' D) (hd : ∀ a, ao = some a → ¬ D a.block) : IntsAt w' ao xs := by
  rcases h with h | ⟨b, o, rfl, hx⟩
  · exact Or.inl h
  · exact Or.inr ⟨b, o, rfl, fun i hi => cell_chg hc (hx i hi) (hd _ rfl)⟩

theorem InsAt.chg {w w' : World} {D : Nat → Prop} {ao : Option Addr} {xs : List Ins} (h : InsAt w ao xs) (hc : Chg w w' D) (hd : ∀ a, ao = some a → ¬ D a.block) : InsAt w' ao xs := by
  rcases h with h | ⟨b, o, rfl, hx⟩
  · exact Or.inl h
  · refine Or.inr ⟨b, o, rfl, fun i hi => ?_⟩
    obtain ⟨h1, h2, h3, h4⟩ := hx i hi
    exact ⟨cell_chg hc h1 (hd _ rfl), cell_chg hc h2 (hd _ rfl), cell_chg hc h3 (hd _ rfl), cell_chg hc h4 (hd _ rfl)⟩

/-- What a key has: a value, or none. -/
structure Slot where
  v : Int
  th : Bool
def Slot.none : Slot := ⟨0, false⟩
def slotCells (l : List Slot) : List Value := l.flatMap fun s => [.int .i64 s.v, .bool s.th]

theorem slotCells_cons (x : Slot) (l : List Slot) : slotCells (x :: l) = .int .i64 x.v :: .bool x.th :: slotCells l := by simp [slotCells]
theorem slotCells_length (l : List Slot) : (slotCells l).length = l.length * 2 := by
  induction l with
  | nil => rfl
  | cons x r ih => rw [slotCells_cons]; simp [ih]; omega
theorem slotCells_oneCell (l : List Slot) : ∀ v ∈ slotCells l, v.oneCell' = true := by
  intro v hv; simp [slotCells] at hv; obtain ⟨z, _, h | h⟩ := hv <;> subst h <;> rfl
theorem slotCells_append (a b : List Slot) : slotCells (a ++ b) = slotCells a ++ slotCells b := by simp [slotCells]
theorem slotCells_get (l : List Slot) : ∀ i, i < l.length → (slotCells l)[i * 2]? = some (.int .i64 (l.getD i Slot.none).v) ∧ (slotCells l)[i * 2 + 1]? = some (.bool (l.getD i Slot.none).th) := by
  induction l with
  | nil => intro i hi; simp at hi
  | cons x r ih =>
    intro i hi
    rw [slotCells_cons]
    cases i with
    | zero => simp
    | succ i =>
      have := ih i (by simpa using hi)
      rw [show (i + 1) * 2 = i * 2 + 2 by omega]
      simpa using this
theorem slotCells_set (l : List Slot) (x : Slot) : ∀ i, i < l.length → ((slotCells l).set (i * 2) (.int .i64 x.v)).set (i * 2 + 1) (.bool x.th) = slotCells (l.set i x) := by
  induction l with
  | nil => intro i hi; simp at hi
  | cons y r ih =>
    intro i hi
    cases i with
    | zero => simp [slotCells_cons]
    | succ i =>
      have := ih i (by simpa using hi)
      rw [slotCells_cons, List.set_cons_succ, slotCells_cons, show (i + 1) * 2 = i * 2 + 2 by omega]
      simpa using this

/-- Slots lie from an address on, two cells each. -/
def SlotsAt (w : World) (ao : Option Addr) (xs : List Slot) : Prop :=
  xs = [] ∨ ∃ b o, ao = some ⟨b, o, none⟩ ∧ ∀ i, i < xs.length → w.cell? ⟨b, o + i * 2, none⟩ = some (.int .i64 (xs.getD i Slot.none).v) ∧ w.cell? ⟨b, o + i * 2 + 1, none⟩ = some (.bool (xs.getD i Slot.none).th)

theorem SlotsAt.chg {w w' : World} {D : Nat → Prop} {ao : Option Addr} {xs : List Slot} (h : SlotsAt w ao xs) (hc : Chg w w' D) (hd : ∀ a, ao = some a → ¬ D a.block) : SlotsAt w' ao xs := by
  rcases h with h | ⟨b, o, rfl, hx⟩
  · exact Or.inl h
  · refine Or.inr ⟨b, o, rfl, fun i hi => ?_⟩
    obtain ⟨h1, h2⟩ := hx i hi
    exact ⟨cell_chg hc h1 (hd _ rfl), cell_chg hc h2 (hd _ rfl)⟩

theorem SlotsAt.below {w w' : World} {ao : Option Addr} {xs : List Slot} (h : SlotsAt w ao xs) (hb : Below w.heap.size w w') : SlotsAt w' ao xs := h.chg (Chg.of_below hb (fun _ => False)) (fun _ _ => id)

theorem SlotsAt.at {w : World} {ao : Option Addr} {xs : List Slot} (h : SlotsAt w ao xs) {k : Nat} (hk : k < xs.length) :
    ∃ b o, ao = some ⟨b, o, none⟩ ∧ (∀ i, i < xs.length → w.cell? ⟨b, o + i * 2, none⟩ = some (.int .i64 (xs.getD i Slot.none).v) ∧ w.cell? ⟨b, o + i * 2 + 1, none⟩ = some (.bool (xs.getD i Slot.none).th)) ∧ b < w.heap.size := by
  rcases h with h | ⟨b, o, rfl, hc⟩
  · subst h; simp at hk
  · exact ⟨b, o, rfl, hc, lt_of_cell (hc k hk).1⟩

theorem RowAt.slots {w : World} {g : Nat} {t : TypeId} {xs : List Slot} (h : RowAt w g t (slotCells xs)) : SlotsAt w (some ⟨g, 0, none⟩) xs := by
  refine Or.inr ⟨g, 0, rfl, fun i hi => ?_⟩
  rw [Nat.zero_add]
  obtain ⟨c0, c1⟩ := slotCells_get xs i hi
  exact ⟨h.cell' c0, h.cell' c1⟩

end Go.Proofs.YtlheloogmgmjnaaGreat
