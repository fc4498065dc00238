import Derived.Test.YtlheloogmgmjnaaGreatChg
import Derived.Test.YtlheloogmgmjnaaGreatStill
import Derived.Test.YtlheloogmgmjnaaGreatHdTH
import Derived.Deep.AppendLies
namespace Go.Proofs.YtlheloogmgmjnaaGreat
open Go.RowKit

/-- A slice that owns a row from its head on. -/
def Own (w : World) (e : TypeId) (sz : Nat) (s : Sl) (xs : List Value) : Prop := w.ownsRow 0 e sz (.slice s.a s.n s.c) s.n xs

def Sl.val (s : Sl) : Value := .slice s.a s.n s.c
def Sl.blk (s : Sl) : List Nat := match s.a with | some a => [a.block] | none => []
def Sl.nil : Sl := ⟨none, 0, 0⟩

theorem Own.nil (w : World) (e : TypeId) (sz : Nat) : Own w e sz Sl.nil [] := World.ownsRow_nil _ _ _ _

/-- Where something is owned: the row. -/
theorem Own.row {w : World} {e : TypeId} {sz : Nat} {s : Sl} {xs : List Value} (h : Own w e sz s xs) : (s = Sl.nil ∧ xs = []) ∨ ∃ g cur, s.a = some ⟨g, 0, none⟩ ∧ RowAt w g e cur ∧ s.n ≤ s.c ∧ cur.length = s.c * sz ∧ cur.take (s.n * sz) = xs ∧ xs.length = s.n * sz := by
  obtain ⟨hl, h | ⟨g, cap, cur, hv, _, hh, hn, _, hs, ht⟩⟩ := h
  · left
    obtain ⟨hv, hn⟩ := h
    simp at hv
    obtain ⟨h1, h2, h3⟩ := hv
    refine ⟨?_, by rw [hn] at hl; simpa using hl⟩
    cases s; simp_all [Sl.nil]
  · right
    simp at hv
    obtain ⟨h1, h2⟩ := hv
    subst h2
    exact ⟨g, cur.toList, h1, hh, hn, by simpa using hs, ht, hl⟩

theorem Own.chg {w w' : World} {D : Nat → Prop} {e : TypeId} {sz : Nat} {s : Sl} {xs : List Value} (h : Own w e sz s xs) (hc : Chg w w' D) (hd : ∀ k ∈ s.blk, ¬ D k) : Own w' e sz s xs := by
  obtain ⟨hl, h⟩ := h
  refine ⟨hl, ?_⟩
  rcases h with h | ⟨g, cap, cur, hv, hb, hh, r⟩
  · exact Or.inl h
  · right
    refine ⟨g, cap, cur, hv, hb, ?_, r⟩
    have hg : g ∈ s.blk := by simp at hv; simp [Sl.blk, hv.1]
    have hlt : g < w.heap.size := by
      by_cases hb : g < w.heap.size
      · exact hb
      · rw [Array.getElem?_eq_none (by omega)] at hh; cases hh
    rw [hc.block g hlt (hd g hg)]; exact hh

theorem Own.cell {w : World} {e : TypeId} {sz : Nat} {s : Sl} {xs : List Value} (h : Own w e sz s xs) {i : Nat} {v : Value} (hi : xs[i]? = some v) : ∃ g, s.a = some ⟨g, 0, none⟩ ∧ w.cell? ⟨g, i, none⟩ = some v := by
  rcases h.row with ⟨_, rfl⟩ | ⟨g, cur, ha, hr, _, _, ht, _⟩
  · simp at hi
  · refine ⟨g, ha, hr.cell' ?_⟩
    rw [← ht] at hi
    rw [List.getElem?_take] at hi
    split at hi
    · exact hi
    · cases hi

theorem Own.blk_lt {w : World} {e : TypeId} {sz : Nat} {s : Sl} {xs : List Value} (h : Own w e sz s xs) : ∀ k ∈ s.blk, k < w.heap.size := by
  intro k hk
  rcases h.row with ⟨rfl, _⟩ | ⟨g, cur, ha, hr, _⟩
  · simp [Sl.blk, Sl.nil] at hk
  · simp [Sl.blk, ha] at hk; subst hk; exact hr.lt

theorem Own.ints {w : World} {e : TypeId} {s : Sl} {xs : List Int} (h : Own w e 1 s (ints xs)) : IntsAt w s.a xs := by
  by_cases h0 : xs = []
  · exact Or.inl h0
  · have hp : 0 < xs.length := List.length_pos_iff.2 h0
    obtain ⟨g, ha, _⟩ := h.cell (ints_getD xs 0 hp)
    refine Or.inr ⟨g, 0, ha, fun i hi => ?_⟩
    obtain ⟨g', ha', hc⟩ := h.cell (ints_getD xs i hi)
    rw [ha] at ha'; simp at ha'; subst ha'
    rw [Nat.zero_add]; exact hc

theorem Own.slots {w : World} {e : TypeId} {s : Sl} {xs : List Slot} (h : Own w e 2 s (slotCells xs)) : SlotsAt w s.a xs := by
  by_cases h0 : xs = []
  · exact Or.inl h0
  · have hp : 0 < xs.length := List.length_pos_iff.2 h0
    obtain ⟨g, ha, _⟩ := h.cell (slotCells_get xs 0 hp).1
    refine Or.inr ⟨g, 0, ha, fun i hi => ?_⟩
    obtain ⟨g', ha', hc⟩ := h.cell (slotCells_get xs i hi).1
    obtain ⟨g'', ha'', hc'⟩ := h.cell (slotCells_get xs i hi).2
    rw [ha] at ha' ha''; simp at ha' ha''; subst ha' ha''
    rw [Nat.zero_add]; exact ⟨hc, hc'⟩

theorem Own.of_row {w : World} {g : Nat} {e : TypeId} {sz n : Nat} {cs : List Value} (h : RowAt w g e cs) (hn : cs.length = n * sz) (hm : n ≤ maxLen) : Own w e sz ⟨some ⟨g, 0, none⟩, n, n⟩ cs :=
  ⟨hn, Or.inr ⟨g, n, cs.toArray, rfl, Nat.zero_le _, h, Nat.le_refl _, hm, by simpa using hn, by rw [List.take_of_length_le (by simp [hn])]⟩⟩

/-- Bools lie from an address on. -/
def BoolsAt (w : World) (ao : Option Addr) (xs : List Bool) : Prop :=
  xs = [] ∨ ∃ b o, ao = some ⟨b, o, none⟩ ∧ ∀ i, i < xs.length → w.cell? ⟨b, o + i, none⟩ = some (.bool (xs.getD i false))
def bools (xs : List Bool) : List Value := xs.map .bool
theorem bools_getD (xs : List Bool) (k : Nat) (hk : k < xs.length) : (bools xs)[k]? = some (.bool (xs.getD k false)) := by simp [bools, List.getD, hk]
theorem bools_set (xs : List Bool) (i : Nat) (y : Bool) : (bools xs).set i (.bool y) = bools (xs.set i y) := by simp [bools, List.map_set]
theorem BoolsAt.chg {w w' : World} {D : Nat → Prop} {ao : Option Addr} {xs : List Bool} (h : BoolsAt w ao xs) (hc : Chg w w' D) (hd : ∀ a, ao = some a → ¬ D a.block) : BoolsAt w' ao xs := by
  rcases h with h | ⟨b, o, rfl, hx⟩
  · exact Or.inl h
  · exact Or.inr ⟨b, o, rfl, fun i hi => cell_chg hc (hx i hi) (hd _ rfl)⟩
theorem BoolsAt.at {w : World} {ao : Option Addr} {xs : List Bool} (h : BoolsAt w ao xs) {k : Nat} (hk : k < xs.length) :
    ∃ b o, ao = some ⟨b, o, none⟩ ∧ (∀ i, i < xs.length → w.cell? ⟨b, o + i, none⟩ = some (.bool (xs.getD i false))) ∧ b < w.heap.size := by
  rcases h with h | ⟨b, o, rfl, hc⟩
  · subst h; simp at hk
  · exact ⟨b, o, rfl, hc, lt_of_cell (hc k hk)⟩
theorem Own.bools {w : World} {e : TypeId} {s : Sl} {xs : List Bool} (h : Own w e 1 s (bools xs)) : BoolsAt w s.a xs := by
  by_cases h0 : xs = []
  · exact Or.inl h0
  · have hp : 0 < xs.length := List.length_pos_iff.2 h0
    obtain ⟨g, ha, _⟩ := h.cell (bools_getD xs 0 hp)
    refine Or.inr ⟨g, 0, ha, fun i hi => ?_⟩
    obtain ⟨g', ha', hc⟩ := h.cell (bools_getD xs i hi)
    rw [ha] at ha'; simp at ha'; subst ha'
    rw [Nat.zero_add]; exact hc

def nats (xs : List Nat) : List Int := xs.map fun (k : Nat) => (k : Int)

/-! ### The document's store -/

/-- How a transaction goes. -/
structure Crs where
  did : List Nat
  ab : Bool
  out : Int
  ws : List Slot
  said : List Bool

/-- A transaction that came in, and where its lists lie. -/
structure Tsk where
  tx : Tx
  crs : Crs
  ended : Bool
  gone : List Bool
  h : TH
  didS : Sl
  wsS : Sl
  saidS : Sl
  goneS : Sl

def Tsk.row (t : Tsk) : List Value :=
  [.slice t.h.r.a t.h.r.n t.h.r.c, .slice t.h.w.a t.h.w.n t.h.w.c, .slice t.h.c.a t.h.c.n t.h.c.c, .slice t.didS.a t.didS.n t.didS.c, .bool t.crs.ab, .int .i64 t.crs.out, .slice t.wsS.a t.wsS.n t.wsS.c, .slice t.saidS.a t.saidS.n t.saidS.c, .bool t.ended, .slice t.goneS.a t.goneS.n t.goneS.c]

def Tsk.imm (t : Tsk) : List Nat := t.h.r.blk ++ (t.h.w.blk ++ (t.h.c.blk ++ (t.didS.blk ++ (t.wsS.blk ++ t.saidS.blk))))

/-- What a transaction's cells lead to. -/
structure TskAt (w : World) (t : Tsk) : Prop where
  tx : TxAt w t.h t.tx
  did : IntsAt w t.didS.a (nats t.crs.did)
  didn : t.didS.n = t.crs.did.length
  ws : SlotsAt w t.wsS.a t.crs.ws
  wsn : t.wsS.n = t.crs.ws.length
  wsl : t.crs.ws.length = t.tx.w.length
  said : BoolsAt w t.saidS.a t.crs.said
  saidn : t.saidS.n = t.crs.said.length
  saidl : t.crs.said.length = t.tx.w.length
  gone : Own w 4 1 t.goneS (bools t.gone)
  gonen : t.goneS.n = t.gone.length
  gonel : t.gone.length = t.tx.w.length
  chk : checkN t.tx = 0

structure RM where
  b : Nat
  parts : Nat
  doers : Nat
  room : Nat
  taken : Nat
  tasks : List Tsk
  hv : List Slot
  ends : List Nat
  dealt : List Nat
  hand : List Nat
  dids : List Nat
  tkS : Sl
  hvS : Sl
  enS : Sl
  deS : Sl
  haS : Sl
  diS : Sl

def RM.row (M : RM) : List Value :=
  [.int .i64 M.parts, .int .i64 M.doers, .int .i64 M.room, .slice M.tkS.a M.tkS.n M.tkS.c, .slice M.hvS.a M.hvS.n M.hvS.c, .slice M.enS.a M.enS.n M.enS.c, .slice M.deS.a M.deS.n M.deS.c, .slice M.haS.a M.haS.n M.haS.c, .slice M.diS.a M.diS.n M.diS.c, .int .i64 M.taken]

/-- The blocks that calls write into. -/
def RM.mut (M : RM) : List Nat := M.b :: (M.tkS.blk ++ (M.hvS.blk ++ (M.enS.blk ++ (M.deS.blk ++ (M.haS.blk ++ (M.diS.blk ++ M.tasks.flatMap fun t => t.goneS.blk))))))
def RM.imm (M : RM) : List Nat := M.tasks.flatMap Tsk.imm

/-- The document's store lies in memory. -/
structure RefAt (w : World) (M : RM) : Prop where
  row : RowAt w M.b 42 M.row
  tk : Own w 171 10 M.tkS (M.tasks.flatMap Tsk.row)
  tkn : M.tkS.n = M.tasks.length
  hv : Own w 172 2 M.hvS (slotCells M.hv)
  hvn : M.hvS.n = 24
  hvl : M.hv.length = 24
  en : Own w 3 1 M.enS (ints (nats M.ends))
  enn : M.enS.n = M.ends.length
  de : Own w 3 1 M.deS (ints (nats M.dealt))
  den : M.deS.n = M.dealt.length
  del : M.dealt.length = M.parts
  ha : Own w 3 1 M.haS (ints (nats M.hand))
  han : M.haS.n = M.hand.length
  hal : M.hand.length = M.doers
  di : Own w 3 1 M.diS (ints (nats M.dids))
  din : M.diS.n = M.dids.length
  dil : M.dids.length = M.doers
  tsk : ∀ t ∈ M.tasks, TskAt w t
  nodup : M.mut.Nodup
  apart : ∀ k ∈ M.imm, k ∉ M.mut
  immlt : ∀ k ∈ M.imm, k < w.heap.size
  parts1 : 1 ≤ M.parts
  parts8 : M.parts ≤ 8
  doers1 : 1 ≤ M.doers
  doers6 : M.doers ≤ 6
  room500 : M.room ≤ 500
  txns : M.tasks.length ≤ 150
  ends1 : M.ends.length ≤ M.tasks.length
  ends2 : M.ends.length ≤ M.ends.getD (M.ends.length - 1) 0
  endsle : ∀ e ∈ M.ends, e ≤ M.tasks.length
  dealtle : ∀ d ∈ M.dealt, d ≤ M.tasks.length

end Go.Proofs.YtlheloogmgmjnaaGreat
