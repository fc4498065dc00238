import Derived.WalkKit
import Derived.WalkSpells
import Derived.WalkLawsBesides
import Derived.Deep.QuietTactic
import Derived.BigQuiet
namespace Go.Proofs.Ytlheloogmgmjnaa
open Go.RowKit

theorem hide {p : Prop} (h : p) : Hid p := h

theorem ret_int {k : IntKind} {a b : Int} (h : a = b) : Ending.returned (.int k a) = .returned (.int k b) := by rw [h]
theorem ret_bool {a b : Bool} (h : a = b) : Ending.returned (.bool a) = .returned (.bool b) := by rw [h]

/-- n numbers lie from an address on. -/
def IntsAt (w : World) (ao : Option Addr) (xs : List Int) : Prop :=
  xs = [] ∨ ∃ b o, ao = some ⟨b, o, none⟩ ∧ ∀ i, i < xs.length → w.cell? ⟨b, o + i, none⟩ = some (.int .i64 (xs.getD i 0))

/-- An instruction. -/
structure Ins where
  op : Int
  a : Int
  b : Int
  c : Int

def Ins.zero : Ins := ⟨0, 0, 0, 0⟩
def Ins.val (x : Ins) : Value := .agg #[.int .i64 x.op, .int .i64 x.a, .int .i64 x.b, .int .i64 x.c]

/-- Instructions lie from an address on, four cells each. -/
def InsAt (w : World) (ao : Option Addr) (cs : List Ins) : Prop :=
  cs = [] ∨ ∃ b o, ao = some ⟨b, o, none⟩ ∧ ∀ i, i < cs.length →
    w.cell? ⟨b, o + i * 4, none⟩ = some (.int .i64 (cs.getD i Ins.zero).op) ∧ w.cell? ⟨b, o + i * 4 + 1, none⟩ = some (.int .i64 (cs.getD i Ins.zero).a) ∧
    w.cell? ⟨b, o + i * 4 + 2, none⟩ = some (.int .i64 (cs.getD i Ins.zero).b) ∧ w.cell? ⟨b, o + i * 4 + 3, none⟩ = some (.int .i64 (cs.getD i Ins.zero).c)

theorem lt_of_cell {w : World} {b o : Nat} {v : Value} (h : w.cell? ⟨b, o, none⟩ = some v) : b < w.heap.size := by
  unfold World.cell? at h
  by_cases hb : b < w.heap.size
  · exact hb
  · have : w.heap[b]? = none := Array.getElem?_eq_none (by omega)
    simp [this] at h

/-- All old cells and marks read as before behind a call that only makes memory. -/
theorem bcell {W w1 : World} (hb : Below W.heap.size W w1) : (∀ b o, b < W.heap.size → w1.cell? ⟨b, o, none⟩ = W.cell? ⟨b, o, none⟩) ∧ (∀ b o, b < W.heap.size → w1.frozen? ⟨b, o, none⟩ = W.frozen? ⟨b, o, none⟩) :=
  ⟨fun b o h => hb.cell (p := ⟨b, o, none⟩) h, fun b o h => hb.frozen (p := ⟨b, o, none⟩) h⟩

theorem cell_below {B : Nat} {w w' : World} (hb : Below B w w') (hB : w.heap.size ≤ B) {b o : Nat} {v : Value} (h : w.cell? ⟨b, o, none⟩ = some v) : w'.cell? ⟨b, o, none⟩ = some v := by
  rw [hb.cell (p := ⟨b, o, none⟩) (by have := lt_of_cell h; show b < B; omega)]; exact h

theorem below_alloc {w w' : World} {o : Obj} (h : Below (w.alloc o).heap.size (w.alloc o) w') : Below w.heap.size w w' :=
  ((Below.refl _ _).alloc (Nat.le_refl _) o).trans (h.mono (by simp))
theorem below_alloc1 (w : World) (o : Obj) : Below w.heap.size w (w.alloc o) := (Below.refl _ _).alloc (Nat.le_refl _) o

/-- Two calls behind one another that only make memory. -/
theorem below_on {w w' w'' : World} (h : Below w.heap.size w w') (k : Below w'.heap.size w' w'') : Below w.heap.size w w'' := h.trans (k.mono h.size)

theorem IntsAt.below {w w' : World} {ao : Option Addr} {xs : List Int} (h : IntsAt w ao xs) (hb : Below w.heap.size w w') : IntsAt w' ao xs := by
  rcases h with h | ⟨b, o, rfl, hc⟩
  · exact Or.inl h
  · exact Or.inr ⟨b, o, rfl, fun i hi => cell_below hb (Nat.le_refl _) (hc i hi)⟩

theorem InsAt.below {w w' : World} {ao : Option Addr} {xs : List Ins} (h : InsAt w ao xs) (hb : Below w.heap.size w w') : InsAt w' ao xs := by
  rcases h with h | ⟨b, o, rfl, hc⟩
  · exact Or.inl h
  · refine Or.inr ⟨b, o, rfl, fun i hi => ?_⟩
    obtain ⟨h1, h2, h3, h4⟩ := hc i hi
    exact ⟨cell_below hb (Nat.le_refl _) h1, cell_below hb (Nat.le_refl _) h2, cell_below hb (Nat.le_refl _) h3, cell_below hb (Nat.le_refl _) h4⟩

/-- The cell of a number that is there. -/
theorem IntsAt.at {w : World} {ao : Option Addr} {xs : List Int} (h : IntsAt w ao xs) {k : Nat} (hk : k < xs.length) :
    ∃ b o, ao = some ⟨b, o, none⟩ ∧ (∀ i, i < xs.length → w.cell? ⟨b, o + i, none⟩ = some (.int .i64 (xs.getD i 0))) ∧ b < w.heap.size := by
  rcases h with h | ⟨b, o, rfl, hc⟩
  · subst h; simp at hk
  · exact ⟨b, o, rfl, hc, lt_of_cell (hc k hk)⟩

theorem InsAt.at {w : World} {ao : Option Addr} {xs : List Ins} (h : InsAt w ao xs) {k : Nat} (hk : k < xs.length) :
    ∃ b o, ao = some ⟨b, o, none⟩ ∧ (∀ i, i < xs.length →
    w.cell? ⟨b, o + i * 4, none⟩ = some (.int .i64 (xs.getD i Ins.zero).op) ∧ w.cell? ⟨b, o + i * 4 + 1, none⟩ = some (.int .i64 (xs.getD i Ins.zero).a) ∧
    w.cell? ⟨b, o + i * 4 + 2, none⟩ = some (.int .i64 (xs.getD i Ins.zero).b) ∧ w.cell? ⟨b, o + i * 4 + 3, none⟩ = some (.int .i64 (xs.getD i Ins.zero).c)) ∧ b < w.heap.size := by
  rcases h with h | ⟨b, o, rfl, hc⟩
  · subst h; simp at hk
  · exact ⟨b, o, rfl, hc, lt_of_cell (hc k hk).1⟩

/-- A slice's header; a transaction's; what a transaction is. -/
structure Sl where
  a : Option Addr
  n : Nat
  c : Nat
structure TH where
  r : Sl
  w : Sl
  c : Sl
structure Tx where
  r : List Int
  w : List Int
  c : List Ins
def TH.cells (h : TH) : Array Value := #[.slice h.r.a h.r.n h.r.c, .slice h.w.a h.w.n h.w.c, .slice h.c.a h.c.n h.c.c]

/-- A transaction lies behind a header. -/
structure TxAt (w : World) (h : TH) (t : Tx) : Prop where
  rl : h.r.n = t.r.length
  wl : h.w.n = t.w.length
  cl : h.c.n = t.c.length
  rc : h.r.n ≤ h.r.c
  wc : h.w.n ≤ h.w.c
  cc : h.c.n ≤ h.c.c
  rb : h.r.n * 8 ≤ 140737488351232
  wb : h.w.n * 8 ≤ 140737488351232
  cb : h.c.n * 32 ≤ 140737488351232
  ri : IntsAt w h.r.a t.r
  wi : IntsAt w h.w.a t.w
  ci : InsAt w h.c.a t.c

theorem TxAt.below {w w' : World} {h : TH} {t : Tx} (x : TxAt w h t) (hb : Below w.heap.size w w') : TxAt w' h t :=
  { x with ri := x.ri.below hb, wi := x.wi.below hb, ci := x.ci.below hb }

end Go.Proofs.Ytlheloogmgmjnaa
