import Derived.Test.YtlheloogmgmjnaaT03
import Derived.Test.YtlheloogmgmjnaaT05
import Derived.Test.YtlheloogmgmjnaaT06
import Derived.Deep.AppendLies
import Derived.Test.YtlheloogmgmjnaaProg
namespace Go.Proofs.Ytlheloogmgmjnaa
open Go.RowKit

/-- A slice that owns a row from its head on. -/
def Own (w : World) (e : TypeId) (sz : Nat) (s : Sl) (xs : List Value) : Prop := w.ownsRow 0 e sz (.slice s.a s.n s.c) s.n xs

def Sl.val (s : Sl) : Value := .slice s.a s.n s.c
def Sl.blk (s : Sl) : List Nat := match s.a with | some a => [a.block] | none => []
def Sl.nil : Sl := ⟨none, 0, 0⟩

theorem Own.nil (w : World) (e : TypeId) (sz : Nat) : Own w e sz Sl.nil [] := World.ownsRow_nil _ _ _ _

/-- Where something is owned: the row. -/
theorem Own.row {w : World} {e : TypeId} {sz : Nat} {s : Sl} {xs : List Value} (h : Own w e sz s xs) : (s = Sl.nil ∧ xs = []) ∨ ∃ g cur, s.a = some ⟨g, 0, none⟩ ∧ RowAt w g e cur ∧ s.n ≤ s.c ∧ cur.length = s.c * sz ∧ cur.take (s.n * sz) = xs ∧ xs.length = s.n * sz := by
  obtain ⟨hl, h | ⟨g, cap, cur, hv, _, hh, hn, _, hs, ht⟩⟩ := h
  · left
    obtain ⟨hv, hn⟩ := h
    simp at hv
    obtain ⟨h1, h2, h3⟩ := hv
    refine ⟨?_, by rw [hn] at hl; simpa using hl⟩
    cases s; simp_all [Sl.nil]
  · right
    simp at hv
    obtain ⟨h1, h2⟩ := hv
    subst h2
    exact ⟨g, cur.toList, h1, hh, hn, by simpa using hs, ht, hl⟩

theorem Own.chg {w w' : World} {D : Nat → Prop} {e : TypeId} {sz : Nat} {s : Sl} {xs : List Value} (h : Own w e sz s xs) (hc : Chg w w' D) (hd : ∀ k ∈ s.blk, ¬ D k) : Own w' e sz s xs := by
  obtain ⟨hl, h⟩ := h
  refine ⟨hl, ?_⟩
  rcases h with h | ⟨g, cap, cur, hv, hb, hh, r⟩
  · exact Or.inl h
  · right
    refine ⟨g, cap, cur, hv, hb, ?_, r⟩
    have hg : g ∈ s.blk := by simp at hv; simp [Sl.blk, hv.1]
    have hlt : g < w.heap.size := by
      by_cases hb : g < w.heap.size
      · exact hb
      · rw [Array.getElem?_eq_none (by omega)] at hh; cases hh
    rw [hc.block g hlt (hd g hg)]; exact hh

theorem Own.cell {w : World} {e : TypeId} {sz : Nat} {s : Sl} {xs : List Value} (h : Own w e sz s xs) {i : Nat} {v : Value} (hi : xs[i]? = some v) : ∃ g, s.a = some ⟨g, 0, none⟩ ∧ w.cell? ⟨g, i, none⟩ = some v := by
  rcases h.row with ⟨_, rfl⟩ | ⟨g, cur, ha, hr, _, _, ht, _⟩
  · simp at hi
  · refine ⟨g, ha, hr.cell' ?_⟩
    rw [← ht] at hi
    rw [List.getElem?_take] at hi
    split at hi
    · exact hi
    · cases hi

theorem Own.blk_lt {w : World} {e : TypeId} {sz : Nat} {s : Sl} {xs : List Value} (h : Own w e sz s xs) : ∀ k ∈ s.blk, k < w.heap.size := by
  intro k hk
  rcases h.row with ⟨rfl, _⟩ | ⟨g, cur, ha, hr, _⟩
  · simp [Sl.blk, Sl.nil] at hk
  · simp [Sl.blk, ha] at hk; subst hk; exact hr.lt

theorem Own.ints {w : World} {e : TypeId} {s : Sl} {xs : List Int} (h : Own w e 1 s (ints xs)) : IntsAt w s.a xs := by
  by_cases h0 : xs = []
  · exact Or.inl h0
  · have hp : 0 < xs.length := List.length_pos_iff.2 h0
    obtain ⟨g, ha, _⟩ := h.cell (ints_getD xs 0 hp)
    refine Or.inr ⟨g, 0, ha, fun i hi => ?_⟩
    obtain ⟨g', ha', hc⟩ := h.cell (ints_getD xs i hi)
    rw [ha] at ha'; simp at ha'; subst ha'
    rw [Nat.zero_add]; exact hc

theorem Own.slots {w : World} {e : TypeId} {s : Sl} {xs : List Slot} (h : Own w e 2 s (slotCells xs)) : SlotsAt w s.a xs := by
  by_cases h0 : xs = []
  · exact Or.inl h0
  · have hp : 0 < xs.length := List.length_pos_iff.2 h0
    obtain ⟨g, ha, _⟩ := h.cell (slotCells_get xs 0 hp).1
    refine Or.inr ⟨g, 0, ha, fun i hi => ?_⟩
    obtain ⟨g', ha', hc⟩ := h.cell (slotCells_get xs i hi).1
    obtain ⟨g'', ha'', hc'⟩ := h.cell (slotCells_get xs i hi).2
    rw [ha] at ha' ha''; simp at ha' ha''; subst ha' ha''
    rw [Nat.zero_add]; exact ⟨hc, hc'⟩

theorem Own.of_row {w : World} {g : Nat} {e : TypeId} {sz n : Nat} {cs : List Value} (h : RowAt w g e cs) (hn : cs.length = n * sz) (hm : n ≤ maxLen) : Own w e sz ⟨some ⟨g, 0, none⟩, n, n⟩ cs :=
  ⟨hn, Or.inr ⟨g, n, cs.toArray, rfl, Nat.zero_le _, h, Nat.le_refl _, hm, by simpa using hn, by rw [List.take_of_length_le (by simp [hn])]⟩⟩

/-- Bools lie from an address on. -/
def BoolsAt (w : World) (ao : Option Addr) (xs : List Bool) : Prop :=
  xs = [] ∨ ∃ b o, ao = some ⟨b, o, none⟩ ∧ ∀ i, i < xs.length → w.cell? ⟨b, o + i, none⟩ = some (.bool (xs.getD i false))
def bools (xs : List Bool) : List Value := xs.map .bool
theorem bools_getD (xs : List Bool) (k : Nat) (hk : k < xs.length) : (bools xs)[k]? = some (.bool (xs.getD k false)) := by simp [bools, List.getD, hk]
theorem BoolsAt.chg {w w' : World} {D : Nat → Prop} {ao : Option Addr} {xs : List Bool} (h : BoolsAt w ao xs) (hc : Chg w w' D) (hd : ∀ a, ao = some a → ¬ D a.block) : BoolsAt w' ao xs := by
  rcases h with h | ⟨b, o, rfl, hx⟩
  · exact Or.inl h
  · exact Or.inr ⟨b, o, rfl, fun i hi => cell_chg hc (hx i hi) (hd _ rfl)⟩
theorem BoolsAt.at {w : World} {ao : Option Addr} {xs : List Bool} (h : BoolsAt w ao xs) {k : Nat} (hk : k < xs.length) :
    ∃ b o, ao = some ⟨b, o, none⟩ ∧ (∀ i, i < xs.length → w.cell? ⟨b, o + i, none⟩ = some (.bool (xs.getD i false))) ∧ b < w.heap.size := by
  rcases h with h | ⟨b, o, rfl, hc⟩
  · subst h; simp at hk
  · exact ⟨b, o, rfl, hc, lt_of_cell (hc k hk)⟩
theorem Own.bools {w : World} {e : TypeId} {s : Sl} {xs : List Bool} (h : Own w e 1 s (bools xs)) : BoolsAt w s.a xs := by
  by_cases h0 : xs = []
  · exact Or.inl h0
  · have hp : 0 < xs.length := List.length_pos_iff.2 h0
    obtain ⟨g, ha, _⟩ := h.cell (bools_getD xs 0 hp)
    refine Or.inr ⟨g, 0, ha, fun i hi => ?_⟩
    obtain ⟨g', ha', hc⟩ := h.cell (bools_getD xs i hi)
    rw [ha] at ha'; simp at ha'; subst ha'
    rw [Nat.zero_add]; exact hc

def nats (xs : List Nat) : List Int := xs.map fun (k : Nat) => (k : Int)

/-- How a transaction goes. -/
structure Crs where
  did : List Nat
  ab : Bool
  out : Int
  ws : List Slot
  said : List Bool

/-- A transaction that came in, and where its lists lie. -/
structure Tsk where
  tx : Tx
  crs : Crs
  ended : Bool
  gone : List Bool
  h : TH
  didS : Sl
  wsS : Sl
  saidS : Sl
  goneS : Sl

def Tsk.row (t : Tsk) : List Value :=
  [.slice t.h.r.a t.h.r.n t.h.r.c, .slice t.h.w.a t.h.w.n t.h.w.c, .slice t.h.c.a t.h.c.n t.h.c.c, .slice t.didS.a t.didS.n t.didS.c, .bool t.crs.ab, .int .i64 t.crs.out, .slice t.wsS.a t.wsS.n t.wsS.c, .slice t.saidS.a t.saidS.n t.saidS.c, .bool t.ended, .slice t.goneS.a t.goneS.n t.goneS.c]

def Tsk.imm (t : Tsk) : List Nat := t.h.r.blk ++ (t.h.w.blk ++ (t.h.c.blk ++ (t.didS.blk ++ (t.wsS.blk ++ t.saidS.blk))))

/-- What a transaction's cells lead to. -/
structure TskAt (w : World) (t : Tsk) : Prop where
  tx : TxAt w t.h t.tx
  did : IntsAt w t.didS.a (nats t.crs.did)
  didn : t.didS.n = t.crs.did.length
  ws : SlotsAt w t.wsS.a t.crs.ws
  wsn : t.wsS.n = t.crs.ws.length
  wsl : t.crs.ws.length = t.tx.w.length
  said : BoolsAt w t.saidS.a t.crs.said
  saidn : t.saidS.n = t.crs.said.length
  saidl : t.crs.said.length = t.tx.w.length
  gone : Own w 4 1 t.goneS (bools t.gone)
  gonen : t.goneS.n = t.gone.length
  gonel : t.gone.length = t.tx.w.length
  chk : checkN t.tx = 0

structure RM where
  b : Nat
  parts : Nat
  doers : Nat
  room : Nat
  taken : Nat
  tasks : List Tsk
  hv : List Slot
  ends : List Nat
  dealt : List Nat
  hand : List Nat
  dids : List Nat
  tkS : Sl
  hvS : Sl
  enS : Sl
  deS : Sl
  haS : Sl
  diS : Sl

def RM.row (M : RM) : List Value :=
  [.int .i64 M.parts, .int .i64 M.doers, .int .i64 M.room, .slice M.tkS.a M.tkS.n M.tkS.c, .slice M.hvS.a M.hvS.n M.hvS.c, .slice M.enS.a M.enS.n M.enS.c, .slice M.deS.a M.deS.n M.deS.c, .slice M.haS.a M.haS.n M.haS.c, .slice M.diS.a M.diS.n M.diS.c, .int .i64 M.taken]

/-- The blocks that calls write into. -/
def RM.mut (M : RM) : List Nat := M.b :: (M.tkS.blk ++ (M.hvS.blk ++ (M.enS.blk ++ (M.deS.blk ++ (M.haS.blk ++ (M.diS.blk ++ M.tasks.flatMap fun t => t.goneS.blk))))))
def RM.imm (M : RM) : List Nat := M.tasks.flatMap Tsk.imm

end Go.Proofs.Ytlheloogmgmjnaa

namespace Go.Proofs.Ytlheloogmgmjnaa
open Go.RowKit

/-- A cell of what is owned is written. -/
theorem Own.set {w : World} {e : TypeId} {sz : Nat} {s : Sl} {xs : List Value} (h : Own w e sz s xs) {g : Nat} (ha : s.a = some ⟨g, 0, none⟩) (i : Nat) (v : Value) : Own (w.setCell ⟨g, i, none⟩ v) e sz s (xs.set i v) := by
  obtain ⟨hl, h | ⟨g', cap, cur, hv, hb, hh, hn, hm, hs, ht⟩⟩ := h
  · simp [ha] at h
  · simp [ha] at hv
    obtain ⟨h1, h2⟩ := hv
    subst h1 h2
    refine ⟨by simpa using hl, Or.inr ⟨g, s.c, (cur.toList.set i v).toArray, by rw [ha], hb, ?_, hn, hm, by simpa using hs, ?_⟩⟩
    · have hr : RowAt w g e cur.toList := by simpa [RowAt] using hh
      exact hr.set i v
    · rw [← ht, List.toList_toArray, List.take_set]

theorem Own.frozen {w : World} {e : TypeId} {sz : Nat} {s : Sl} {xs : List Value} (h : Own w e sz s xs) {g : Nat} (ha : s.a = some ⟨g, 0, none⟩) (i : Nat) : w.frozen? ⟨g, i, none⟩ = false := by
  rcases h.row with ⟨rfl, _⟩ | ⟨g', cur, ha', hr, _⟩
  · simp [Sl.nil] at ha
  · rw [ha] at ha'; simp at ha'; subst ha'; exact hr.frozen i

end Go.Proofs.Ytlheloogmgmjnaa

namespace Go.Proofs.Ytlheloogmgmjnaa
open Go.RowKit

def RM.closed (M : RM) : Nat := M.ends.getD (M.ends.length - 1) 0

def RM.done (M : RM) : Nat := (M.tasks.takeWhile (·.ended)).length

/-- How many of them have not gone. -/
def stay (l : List Bool) : Nat := l.countP (fun b => !b)
def RM.used (M : RM) : Nat := (M.tasks.map fun t => stay t.gone).sum

theorem checkN_sound (t : Tx) (h : checkN t = 0) : t.c.length ≤ 30 ∧ t.r.length ≤ 6 ∧ t.w.length ≤ 6 ∧ (∀ n ∈ t.r, 0 ≤ n ∧ n < 24) ∧ (∀ n ∈ t.w, 0 ≤ n ∧ n < 24) ∧ (∀ x ∈ t.c, soundB x t.r.length t.w.length = true) := by
  unfold checkN at h
  by_cases h1 : longB t = true
  · simp [h1] at h
  simp only [h1] at h
  by_cases h2 : ((t.r.any fun n => !bel n 24) || (t.w.any fun n => !bel n 24)) = true
  · simp [h2] at h
  simp only [h2] at h
  by_cases h3 : (twiceTo t.r t.r.length || twiceTo t.w t.w.length) = true
  · simp [h3] at h
  simp only [h3] at h
  by_cases h4 : unsoundB t = true
  · simp [h4] at h
  simp [longB] at h1
  simp [bel] at h2
  simp [unsoundB] at h4
  exact ⟨by omega, by omega, by omega, h2.1, h2.2, h4⟩

def RM.ready (M : RM) : Nat := M.ends.countP fun e => M.dealt.all fun d => decide (e ≤ d)

theorem countP_take_succ {α : Type} (l : List α) (p : α → Bool) {k : Nat} (hk : k < l.length) : (l.take (k + 1)).countP p = (l.take k).countP p + (if p l[k] then 1 else 0) := by
  rw [List.take_succ_eq_append_getElem hk, List.countP_append]; simp [List.countP_cons]

theorem nat_get {xs : List Nat} {k : Nat} (hk : k < xs.length) : xs.getD k 0 = xs[k] := by simp [List.getD, hk]

/-- The last end that is not beyond d. -/
def markOf (d : Nat) (ends : List Nat) : Nat := ends.foldl (fun m e => if e ≤ d then e else m) 0
def RM.mark (M : RM) : Nat := markOf M.done M.ends

end Go.Proofs.Ytlheloogmgmjnaa

namespace Go.Proofs.Ytlheloogmgmjnaa
open Go.RowKit

/-- Cells are laid over some in the middle. -/
def spl (xs : List Value) (off : Nat) (cs : List Value) : List Value := xs.take off ++ cs ++ xs.drop (off + cs.length)
theorem spl_length {xs : List Value} {off : Nat} {cs : List Value} (h : off + cs.length ≤ xs.length) : (spl xs off cs).length = xs.length := by simp [spl]; omega
theorem spl_take {cur : List Value} {off n : Nat} {cs : List Value} (h : off + cs.length ≤ n) (hn : n ≤ cur.length) : (spl cur off cs).take n = spl (cur.take n) off cs := by
  apply List.ext_getElem?
  intro i
  simp only [spl]
  by_cases hi : i < n
  · rw [List.getElem?_take_of_lt hi]
    simp only [List.getElem?_append, List.length_append, List.length_take, List.getElem?_take, List.getElem?_drop]
    have e1 : min off cur.length = off := by omega
    have e2 : min off (min n cur.length) = off := by omega
    rw [e1, e2]
    by_cases h1 : i < off + cs.length
    · simp only [h1, if_true]
      by_cases h2 : i < off
      · simp [h2, hi]
      · simp [h2]
    · simp only [h1, if_false]
      rw [if_pos (by omega)]
  · rw [List.getElem?_eq_none (by simp; omega), List.getElem?_eq_none (by simp; omega)]

theorem run_storeVar_mid {P : Program} (w : World) (g off : Nat) (ty t : TypeId) (v : Value) (cs cur : List Value) (hg : RowAt w g t cur) (hv : v.cells = cs.toArray) (hl : off + cs.length ≤ cur.length)
    (hi : (P.info? ty).map (·.size) = some cs.length) (h1 : ∀ v ∈ cs, v.oneCell' = true) :
    (storeVar ty ⟨g, off, none⟩ v).run P w = .ok () (w.setRow g (spl cur off cs).toArray) := by
  have hst := run_storeCells_at P g off t cs 0 cur.toArray w hg (by simp; omega) h1
  have e : (cur.toArray.toList.take (off + 0) ++ cs ++ cur.toArray.toList.drop (off + 0 + cs.length)) = spl cur off cs := by simp [spl]
  rw [e] at hst
  cases hq : P.info? ty with
  | none => simp [hq] at hi
  | some i =>
    have hi' : i.size = cs.length := by simpa [hq] using hi
    simp [storeVar, sizeOf, typeInfo, hq, hv, hi', hst]

/-- The store of a struct into the middle of a block, in a region: the world behind it is a letter. -/
theorem wp_store_mid {P : Program} {op : Oper} {a : Act} {w : World} {K : Act → World → Prop} {Q : Exit → Act → World → Prop} (ty : TypeId) (x y : Operand) (ho : op.op = .store ty x y)
    (g off : Nat) (hx : a.eval x = .pointer (some ⟨g, off, none⟩)) (cs cur : List Value) (t : TypeId) (hg : RowAt w g t cur) (hy : (a.eval y).cells = cs.toArray) (hl : off + cs.length ≤ cur.length)
    (hi : (P.info? ty).map (·.size) = some cs.length) (h1 : ∀ v ∈ cs, v.oneCell' = true)
    (h : ∀ w', RowAt w' g t (spl cur off cs) → Chg w w' (· = g) → w'.heap.size = w.heap.size → K (a.put op.dst undef) w') : op.wp P a w K Q := by
  unfold Oper.wp execOp
  simp only [ho, hx, Instr.storeAt, Instr.sureAddr, Sem.run_bind, Sem.run_pure, Result.andThen_ok, run_storeVar_mid w g off ty t _ cs cur hg hy hl hi h1]
  refine h _ ?_ (chg_setRow w g _) (size_setRow w g _)
  exact setRow_heap w g cur.toArray (spl cur off cs).toArray t (0, 0) hg

/-- What is owned, with cells laid over some in the middle. -/
theorem Own.splice {w w' : World} {e : TypeId} {sz : Nat} {s : Sl} {xs : List Value} (h : Own w e sz s xs) {g : Nat} (ha : s.a = some ⟨g, 0, none⟩) {off : Nat} {cs : List Value} (ho : off + cs.length ≤ xs.length)
    (hr : ∀ cur, RowAt w g e cur → RowAt w' g e (spl cur off cs)) : Own w' e sz s (spl xs off cs) := by
  obtain ⟨hl, h | ⟨g', cap, cur, hv, hb, hh, hn, hm, hs, ht⟩⟩ := h
  · simp [ha] at h
  · simp [ha] at hv
    obtain ⟨h1, h2⟩ := hv
    subst h1 h2
    have hlen : xs.length ≤ cur.toList.length := by rw [← ht]; simp; omega
    refine ⟨by rw [spl_length ho]; exact hl, Or.inr ⟨g, s.c, (spl cur.toList off cs).toArray, by rw [ha], hb, ?_, hn, hm, ?_, ?_⟩⟩
    · exact hr cur.toList (by simpa [RowAt] using hh)
    · simp only [List.size_toArray]; rw [spl_length (by omega)]; simpa using hs
    · rw [List.toList_toArray, spl_take (by omega) (by omega), ht]

theorem flatMap_set {α : Type} (row : α → List Value) (k : Nat) (hk : ∀ x, (row x).length = k) (y : α) : ∀ (l : List α) (i : Nat), i < l.length → (l.set i y).flatMap row = spl (l.flatMap row) (i * k) (row y)
  | [], i, h => by simp at h
  | x :: l, 0, _ => by simp [spl, hk]
  | x :: l, i + 1, h => by
    have ih := flatMap_set row k hk y l i (by simpa using h)
    rw [List.set_cons_succ, List.flatMap_cons, List.flatMap_cons, ih]
    have e : (i + 1) * k = k + i * k := by rw [Nat.add_mul]; omega
    simp only [spl, e]
    rw [List.take_append, List.drop_append, hk, hk]
    have e1 : k + i * k - k = i * k := by omega
    have e2 : k + i * k + k - k = i * k + k := by omega
    have t1 : (row x).take (k + i * k) = row x := List.take_of_length_le (by rw [hk]; omega)
    have t2 : (row x).drop (k + i * k + k) = [] := List.drop_eq_nil_of_le (by rw [hk]; omega)
    rw [e1, e2, t1, t2]
    simp

end Go.Proofs.Ytlheloogmgmjnaa

namespace Go.Proofs.Ytlheloogmgmjnaa
open Go.RowKit

theorem soundB_cases {x : Ins} {nr nw : Int} (h : soundB x nr nw = true) : 1 ≤ x.op ∧ x.op ≤ 11 ∧
    (x.op ≤ 7 ∨ x.op = 10 → 0 ≤ x.a ∧ x.a < 6) ∧ ((2 ≤ x.op ∧ x.op ≤ 5) ∨ x.op = 8 → 0 ≤ x.b ∧ x.b < 6) ∧ ((2 ≤ x.op ∧ x.op ≤ 5) → 0 ≤ x.c ∧ x.c < 6) ∧
    (x.op = 6 ∨ x.op = 7 → 0 ≤ x.b ∧ x.b < nr) ∧ (x.op = 8 ∨ x.op = 9 → 0 ≤ x.a ∧ x.a < nw) ∧ (x.op = 10 → 1 ≤ x.b ∧ x.b ≤ 30) := by
  obtain ⟨op, a, b, c⟩ := x
  simp only [soundB] at h ⊢
  split at h
  · simp [bel] at h; omega
  split at h
  · simp [bel] at h; omega
  split at h
  · simp [bel] at h; omega
  split at h
  · simp [bel] at h; omega
  split at h
  · simp [bel] at h; omega
  split at h
  · simp [bel] at h; omega
  split at h
  · simp at h; omega
  · cases h

end Go.Proofs.Ytlheloogmgmjnaa

namespace Go.Proofs.Ytlheloogmgmjnaa
open Go.RowKit

/-- The first of n numbers for which p holds; -1: none. -/
def firstN (p : Nat → Bool) (n : Nat) : Int := match (List.range n).find? p with | some k => (k : Int) | none => -1

theorem firstN_at {p : Nat → Bool} {n k : Nat} (hk : k < n) (hp : p k = true) (hn : ∀ j, j < k → p j = false) : firstN p n = k := by
  have : (List.range n).find? p = some k := by
    rw [List.find?_range_eq_some]
    exact ⟨hp, List.mem_range.2 hk, fun j hj => by simp [hn j hj]⟩
  simp [firstN, this]
theorem firstN_none {p : Nat → Bool} {n : Nat} (hn : ∀ j, j < n → p j = false) : firstN p n = -1 := by
  have : (List.range n).find? p = none := by
    rw [List.find?_eq_none]
    intro j hj
    simp [hn j (List.mem_range.1 hj)]
  simp [firstN, this]
def Tsk.wr (t : Tsk) (key : Int) : Int := firstN (fun k => t.tx.w.getD k 0 == key && !t.gone.getD k false) t.tx.w.length

theorem TskAt.chg {w w' : World} {D : Nat → Prop} {t : Tsk} (h : TskAt w t) (hc : Chg w w' D) (hi : ∀ k ∈ t.imm, ¬ D k) (hg : ∀ k ∈ t.goneS.blk, ¬ D k) : TskAt w' t := by
  have hb : ∀ (s : Sl), (∀ k ∈ s.blk, ¬ D k) → ∀ a, s.a = some a → ¬ D a.block := fun s hs a ha => hs _ (by simp [Sl.blk, ha])
  have h1 : ∀ k ∈ t.h.r.blk, ¬ D k := fun k hk => hi k (by simp [Tsk.imm, hk])
  have h2 : ∀ k ∈ t.h.w.blk, ¬ D k := fun k hk => hi k (by simp [Tsk.imm, hk])
  have h3 : ∀ k ∈ t.h.c.blk, ¬ D k := fun k hk => hi k (by simp [Tsk.imm, hk])
  have h4 : ∀ k ∈ t.didS.blk, ¬ D k := fun k hk => hi k (by simp [Tsk.imm, hk])
  have h5 : ∀ k ∈ t.wsS.blk, ¬ D k := fun k hk => hi k (by simp [Tsk.imm, hk])
  have h6 : ∀ k ∈ t.saidS.blk, ¬ D k := fun k hk => hi k (by simp [Tsk.imm, hk])
  exact { h with
    tx := { h.tx with ri := h.tx.ri.chg hc (hb _ h1), wi := h.tx.wi.chg hc (hb _ h2), ci := h.tx.ci.chg hc (hb _ h3) }
    did := h.did.chg hc (hb _ h4)
    ws := h.ws.chg hc (hb _ h5)
    said := h.said.chg hc (hb _ h6)
    gone := h.gone.chg hc hg }

/-- Versions that are there. -/
def RM.liveAt (M : RM) (key i : Nat) : Bool := decide (0 ≤ ((M.tasks[i]?).map fun t => t.wr key).getD (-1))
def RM.liveOf (M : RM) (key : Nat) : Nat := (List.range (M.dealt.getD (key % M.parts) 0)).countP (M.liveAt key)
def RM.live (M : RM) : Nat := ((List.range 24).map M.liveOf).sum

theorem countP_range_succ (p : Nat → Bool) (k : Nat) : (List.range (k + 1)).countP p = (List.range k).countP p + (if p k then 1 else 0) := by
  rw [List.range_succ, List.countP_append]; simp [List.countP_cons]
theorem sum_range_succ (f : Nat → Nat) (k : Nat) : ((List.range (k + 1)).map f).sum = ((List.range k).map f).sum + f k := by
  rw [List.range_succ, List.map_append, List.sum_append]; simp

end Go.Proofs.Ytlheloogmgmjnaa

namespace Go.Proofs.Ytlheloogmgmjnaa
open Go.RowKit

/-- Where the code goes on. -/
def nextPc (x : Ins) (reg : List Int) (pc : Nat) : Nat := (if x.op = 10 ∧ regOf reg x.a = 0 then pc + x.b.toNat else pc) + 1
def nextSaid (x : Ins) (said : List Bool) : List Bool := if x.op = 8 ∨ x.op = 9 then said.set x.a.toNat true else said

/-- How a transaction goes on. -/
def goFrom (t : Tx) (hv bef : List Slot) : (fuel : Nat) → (pc : Nat) → (reg : List Int) → (out : List Slot) → (did : List Nat) → (said : List Bool) → Crs
  | 0, _, reg, out, did, said => ⟨did, false, reg.getD 0 0, out, said⟩
  | f + 1, pc, reg, out, did, said =>
    if pc < t.c.length then
      if (t.c.getD pc Ins.zero).op = 11 then ⟨did ++ [pc], true, reg.getD 0 0, bef, List.replicate t.w.length false⟩
      else goFrom t hv bef f (nextPc (t.c.getD pc Ins.zero) reg pc) (oneStep (t.c.getD pc Ins.zero) t.r hv reg out).1 (oneStep (t.c.getD pc Ins.zero) t.r hv reg out).2 (did ++ [pc]) (nextSaid (t.c.getD pc Ins.zero) said)
    else ⟨did, false, reg.getD 0 0, out, said⟩

theorem lt_nextPc (x : Ins) (reg : List Int) (pc : Nat) : pc < nextPc x reg pc := by unfold nextPc; split <;> omega

theorem goFrom_fuel (t : Tx) (hv bef : List Slot) : ∀ (f g pc : Nat) (reg : List Int) (out : List Slot) (did : List Nat) (said : List Bool), t.c.length ≤ pc + f → t.c.length ≤ pc + g → goFrom t hv bef f pc reg out did said = goFrom t hv bef g pc reg out did said := by
  intro f
  induction f with
  | zero =>
    intro g pc reg out did said hf hg
    cases g with
    | zero => rfl
    | succ g => simp only [goFrom]; rw [if_neg (by omega)]
  | succ f ih =>
    intro g pc reg out did said hf hg
    cases g with
    | zero => simp only [goFrom]; rw [if_neg (by omega)]
    | succ g =>
      simp only [goFrom]
      by_cases h : pc < t.c.length
      · rw [if_pos h, if_pos h]
        by_cases h2 : (t.c.getD pc Ins.zero).op = 11
        · rw [if_pos h2, if_pos h2]
        · rw [if_neg h2, if_neg h2]
          have := lt_nextPc (t.c.getD pc Ins.zero) reg pc
          exact ih g _ _ _ _ _ (by omega) (by omega)
      · rw [if_neg h, if_neg h]

def goAt (t : Tx) (hv bef : List Slot) (pc : Nat) (reg : List Int) (out : List Slot) (did : List Nat) (said : List Bool) : Crs := goFrom t hv bef t.c.length pc reg out did said

theorem goAt_end {t : Tx} {hv bef : List Slot} {pc : Nat} {reg : List Int} {out : List Slot} {did : List Nat} {said : List Bool} (h : ¬ pc < t.c.length) : goAt t hv bef pc reg out did said = ⟨did, false, reg.getD 0 0, out, said⟩ := by
  unfold goAt
  rw [goFrom_fuel t hv bef t.c.length 0 pc reg out did said (by omega) (by omega)]
  rfl
theorem goAt_abort {t : Tx} {hv bef : List Slot} {pc : Nat} {reg : List Int} {out : List Slot} {did : List Nat} {said : List Bool} (h : pc < t.c.length) (h2 : (t.c.getD pc Ins.zero).op = 11) : goAt t hv bef pc reg out did said = ⟨did ++ [pc], true, reg.getD 0 0, bef, List.replicate t.w.length false⟩ := by
  unfold goAt
  rw [goFrom_fuel t hv bef t.c.length (t.c.length + 1) pc reg out did said (by omega) (by omega)]
  simp only [goFrom]; rw [if_pos h, if_pos h2]
theorem goAt_next {t : Tx} {hv bef : List Slot} {pc : Nat} {reg : List Int} {out : List Slot} {did : List Nat} {said : List Bool} (h : pc < t.c.length) (h2 : (t.c.getD pc Ins.zero).op ≠ 11) :
    goAt t hv bef pc reg out did said = goAt t hv bef (nextPc (t.c.getD pc Ins.zero) reg pc) (oneStep (t.c.getD pc Ins.zero) t.r hv reg out).1 (oneStep (t.c.getD pc Ins.zero) t.r hv reg out).2 (did ++ [pc]) (nextSaid (t.c.getD pc Ins.zero) said) := by
  unfold goAt
  rw [goFrom_fuel t hv bef t.c.length (t.c.length + 1) pc reg out did said (by omega) (by omega)]
  simp only [goFrom]; rw [if_pos h, if_neg h2]

/-- What the keys that are written have ahead. -/
def befOf (t : Tx) (hv : List Slot) : List Slot := t.w.map fun k => hv.getD k.toNat Slot.none
def goCrs (t : Tx) (hv : List Slot) : Crs := goAt t hv (befOf t hv) 0 (List.replicate 6 0) (befOf t hv) [] (List.replicate t.w.length false)

theorem oneStep_len (x : Ins) (R : List Int) (hv : List Slot) (reg : List Int) (out : List Slot) : (oneStep x R hv reg out).1.length = reg.length ∧ (oneStep x R hv reg out).2.length = out.length := by
  unfold oneStep; repeat' split
  all_goals simp
theorem nextSaid_len (x : Ins) (said : List Bool) : (nextSaid x said).length = said.length := by unfold nextSaid; split <;> simp

end Go.Proofs.Ytlheloogmgmjnaa

namespace Go.Proofs.Ytlheloogmgmjnaa
open Go.RowKit

structure GSt where
  pc : Nat
  reg : List Int
  out : List Slot
  said : List Bool

def GSt.ins (t : Tx) (s : GSt) : Ins := t.c.getD s.pc Ins.zero
def gstep (t : Tx) (hv : List Slot) (s : GSt) : GSt := ⟨nextPc (s.ins t) s.reg s.pc, (oneStep (s.ins t) t.r hv s.reg s.out).1, (oneStep (s.ins t) t.r hv s.reg s.out).2, nextSaid (s.ins t) s.said⟩
def gst (t : Tx) (hv : List Slot) : Nat → GSt
  | 0 => ⟨0, List.replicate 6 0, befOf t hv, List.replicate t.w.length false⟩
  | k + 1 => gstep t hv (gst t hv k)
/-- The instructions that are done ahead of the k-th. -/
def pcs (t : Tx) (hv : List Slot) (k : Nat) : List Nat := (List.range k).map fun i => (gst t hv i).pc
/-- Behind k instructions one more is done, and it is no Abort. -/
def Runs (t : Tx) (hv : List Slot) (k : Nat) : Prop := (gst t hv k).pc < t.c.length ∧ ((gst t hv k).ins t).op ≠ 11

theorem pcs_succ (t : Tx) (hv : List Slot) (k : Nat) : pcs t hv (k + 1) = pcs t hv k ++ [(gst t hv k).pc] := by simp [pcs, List.range_succ]
theorem pc_ge (t : Tx) (hv : List Slot) : ∀ k, k ≤ (gst t hv k).pc
  | 0 => Nat.zero_le _
  | k + 1 => by
    have h1 := pc_ge t hv k
    have h2 := lt_nextPc ((gst t hv k).ins t) (gst t hv k).reg (gst t hv k).pc
    show k + 1 ≤ nextPc _ _ _
    omega

theorem gst_len (t : Tx) (hv : List Slot) : ∀ k, (gst t hv k).reg.length = 6 ∧ (gst t hv k).out.length = t.w.length ∧ (gst t hv k).said.length = t.w.length
  | 0 => by simp [gst, befOf]
  | k + 1 => by
    have h := gst_len t hv k
    have h2 := oneStep_len ((gst t hv k).ins t) t.r hv (gst t hv k).reg (gst t hv k).out
    exact ⟨h2.1.trans h.1, h2.2.trans h.2.1, (nextSaid_len _ _).trans h.2.2⟩

/-- The course, seen from behind k instructions. -/
theorem goCrs_from (t : Tx) (hv : List Slot) : ∀ k, (∀ i, i < k → Runs t hv i) → goCrs t hv = goAt t hv (befOf t hv) (gst t hv k).pc (gst t hv k).reg (gst t hv k).out (pcs t hv k) (gst t hv k).said
  | 0, _ => by simp [goCrs, gst, pcs]
  | k + 1, h => by
    rw [goCrs_from t hv k (fun i hi => h i (by omega))]
    obtain ⟨h1, h2⟩ := h k (by omega)
    rw [goAt_next h1 h2, ← pcs_succ]
    rfl

theorem goCrs_end (t : Tx) (hv : List Slot) (k : Nat) (h : ∀ i, i < k → Runs t hv i) (he : ¬ (gst t hv k).pc < t.c.length) : goCrs t hv = ⟨pcs t hv k, false, (gst t hv k).reg.getD 0 0, (gst t hv k).out, (gst t hv k).said⟩ := by
  rw [goCrs_from t hv k h, goAt_end he]

theorem goCrs_abort (t : Tx) (hv : List Slot) (k : Nat) (h : ∀ i, i < k → Runs t hv i) (h1 : (gst t hv k).pc < t.c.length) (h2 : ((gst t hv k).ins t).op = 11) : goCrs t hv = ⟨pcs t hv (k + 1), true, (gst t hv k).reg.getD 0 0, befOf t hv, List.replicate t.w.length false⟩ := by
  rw [goCrs_from t hv k h, goAt_abort h1 h2, pcs_succ]

/-- Each course comes to its end. -/
theorem goCrs_ends (t : Tx) (hv : List Slot) : ∃ k, k ≤ t.c.length ∧ (∀ i, i < k → Runs t hv i) ∧ (¬ (gst t hv k).pc < t.c.length ∨ ((gst t hv k).pc < t.c.length ∧ ((gst t hv k).ins t).op = 11)) := by
  have key : ∀ n k, t.c.length ≤ k + n → k ≤ t.c.length → (∀ i, i < k → Runs t hv i) → ∃ k', k' ≤ t.c.length ∧ (∀ i, i < k' → Runs t hv i) ∧ (¬ (gst t hv k').pc < t.c.length ∨ ((gst t hv k').pc < t.c.length ∧ ((gst t hv k').ins t).op = 11)) := by
    intro n
    induction n with
    | zero =>
      intro k hk hk2 h
      refine ⟨k, hk2, h, Or.inl ?_⟩
      have := pc_ge t hv k
      omega
    | succ n ih =>
      intro k hk hk2 h
      by_cases h1 : (gst t hv k).pc < t.c.length
      · by_cases h2 : ((gst t hv k).ins t).op = 11
        · exact ⟨k, hk2, h, Or.inr ⟨h1, h2⟩⟩
        · have := pc_ge t hv k
          refine ih (k + 1) (by omega) (by omega) (fun i hi => ?_)
          by_cases hik : i < k
          · exact h i hik
          · obtain rfl : i = k := by omega
            exact ⟨h1, h2⟩
      · exact ⟨k, hk2, h, Or.inl h1⟩
  exact key t.c.length 0 (by omega) (Nat.zero_le _) (fun i hi => by omega)

end Go.Proofs.Ytlheloogmgmjnaa
