import Derived.Test.YtlheloogmgmjnaaGreatT03
import Derived.Test.YtlheloogmgmjnaaGreatT08
import Derived.Test.YtlheloogmgmjnaaGreatT10
import Derived.Deep.AppendLies
import Derived.Test.YtlheloogmgmjnaaGreatProg
namespace Go.Proofs.YtlheloogmgmjnaaGreat
open Go.RowKit

/-- A slice that owns a row from its head on. -/
def Own (w : World) (e : TypeId) (sz : Nat) (s : Sl) (xs : List Value) : Prop := w.ownsRow 0 e sz (.slice s.a s.n s.c) s.n xs

def Sl.val (s : Sl) : Value := .slice s.a s.n s.c
def Sl.blk (s : Sl) : List Nat := match s.a with | some a => [a.block] | none => []
def Sl.nil : Sl := ⟨none, 0, 0⟩

theorem Own.nil (w : World) (e : TypeId) (sz : Nat) : Own w e sz Sl.nil [] := World.ownsRow_nil _ _ _ _

/-- Where something is owned: the row. -/
theorem Own.row {w : World} {e : TypeId} {sz : Nat} {s : Sl} {xs : List Value} (h : Own w e sz s xs) : (s = Sl.nil ∧ xs = []) ∨ ∃ g cur, s.a = some ⟨g, 0, none⟩ ∧ RowAt w g e cur ∧ s.n ≤ s.c ∧ cur.length = s.c * sz ∧ cur.take (s.n * sz) = xs ∧ xs.length = s.n * sz := by
  obtain ⟨hl, h | ⟨g, cap, cur, hv, _, hh, hn, _, hs, ht⟩⟩ := h
  · left
    obtain ⟨hv, hn⟩ := h
    simp at hv
    obtain ⟨h1, h2, h3⟩ := hv
    refine ⟨?_, by rw [hn] at hl; simpa using hl⟩
    cases s; simp_all [Sl.nil]
  · right
    simp at hv
    obtain ⟨h1, h2⟩ := hv
    subst h2
    exact ⟨g, cur.toList, h1, hh, hn, by simpa using hs, ht, hl⟩

theorem Own.chg {w w' : World} {D : Nat → Prop} {e : TypeId} {sz : Nat} {s : Sl} {xs : List Value} (h : Own w e sz s xs) (hc : Chg w w' D) (hd : ∀ k ∈ s.blk, ¬ D k) : Own w' e sz s xs := by
  obtain ⟨hl, h⟩ := h
  refine ⟨hl, ?_⟩
  rcases h with h | ⟨g, cap, cur, hv, hb, hh, r⟩
  · exact Or.inl h
  · right
    refine ⟨g, cap, cur, hv, hb, ?_, r⟩
    have hg : g ∈ s.blk := by simp at hv; simp [Sl.blk, hv.1]
    have hlt : g < w.heap.size := by
      by_cases hb : g < w.heap.size
      · exact hb
      · rw [Array.getElem?_eq_none (by omega)] at hh; cases hh
    rw [hc.block g hlt (hd g hg)]; exact hh

theorem Own.cell {w : World} {e : TypeId} {sz : Nat} {s : Sl} {xs : List Value} (h : Own w e sz s xs) {i : Nat} {v : Value} (hi : xs[i]? = some v) : ∃ g, s.a = some ⟨g, 0, none⟩ ∧ w.cell? ⟨g, i, none⟩ = some v := by
  rcases h.row with ⟨_, rfl⟩ | ⟨g, cur, ha, hr, _, _, ht, _⟩
  · simp at hi
  · refine ⟨g, ha, hr.cell' ?_⟩
    rw [← ht] at hi
    rw [List.getElem?_take] at hi
    split at hi
    · exact hi
    · cases hi

theorem Own.blk_lt {w : World} {e : TypeId} {sz : Nat} {s : Sl} {xs : List Value} (h : Own w e sz s xs) : ∀ k ∈ s.blk, k < w.heap.size := by
  intro k hk
  rcases h.row with ⟨rfl, _⟩ | ⟨g, cur, ha, hr, _⟩
  · simp [Sl.blk, Sl.nil] at hk
  · simp [Sl.blk, ha] at hk; subst hk; exact hr.lt

theorem Own.ints {w : World} {e : TypeId} {s : Sl} {xs : List Int} (h : Own w e 1 s (ints xs)) : IntsAt w s.a xs := by
  by_cases h0 : xs = []
  · exact Or.inl h0
  · have hp : 0 < xs.length := List.length_pos_iff.2 h0
    obtain ⟨g, ha, _⟩ := h.cell (ints_getD xs 0 hp)
    refine Or.inr ⟨g, 0, ha, fun i hi => ?_⟩
    obtain ⟨g', ha', hc⟩ := h.cell (ints_getD xs i hi)
    rw [ha] at ha'; simp at ha'; subst ha'
    rw [Nat.zero_add]; exact hc

theorem Own.slots {w : World} {e : TypeId} {s : Sl} {xs : List Slot} (h : Own w e 2 s (slotCells xs)) : SlotsAt w s.a xs := by
  by_cases h0 : xs = []
  · exact Or.inl h0
  · have hp : 0 < xs.length := List.length_pos_iff.2 h0
    obtain ⟨g, ha, _⟩ := h.cell (slotCells_get xs 0 hp).1
    refine Or.inr ⟨g, 0, ha, fun i hi => ?_⟩
    obtain ⟨g', ha', hc⟩ := h.cell (slotCells_get xs i hi).1
    obtain ⟨g'', ha'', hc'⟩ := h.cell (slotCells_get xs i hi).2
    rw [ha] at ha' ha''; simp at ha' ha''; subst ha' ha''
    rw [Nat.zero_add]; exact ⟨hc, hc'⟩

theorem Own.of_row {w : World} {g : Nat} {e : TypeId} {sz n : Nat} {cs : List Value} (h : RowAt w g e cs) (hn : cs.length = n * sz) (hm : n ≤ maxLen) : Own w e sz ⟨some ⟨g, 0, none⟩, n, n⟩ cs :=
  ⟨hn, Or.inr ⟨g, n, cs.toArray, rfl, Nat.zero_le _, h, Nat.le_refl _, hm, by simpa using hn, by rw [List.take_of_length_le (by simp [hn])]⟩⟩

/-- Bools lie from an address on. -/
def BoolsAt (w : World) (ao : Option Addr) (xs : List Bool) : Prop :=
  xs = [] ∨ ∃ b o, ao = some ⟨b, o, none⟩ ∧ ∀ i, i < xs.length → w.cell? ⟨b, o + i, none⟩ = some (.bool (xs.getD i false))
def bools (xs : List Bool) : List Value := xs.map .bool
theorem bools_getD (xs : List Bool) (k : Nat) (hk : k < xs.length) : (bools xs)[k]? = some (.bool (xs.getD k false)) := by simp [bools, List.getD, hk]
theorem bools_set (xs : List Bool) (i : Nat) (y : Bool) : (bools xs).set i (.bool y) = bools (xs.set i y) := by simp [bools, List.map_set]
theorem BoolsAt.chg {w w' : World} {D : Nat → Prop} {ao : Option Addr} {xs : List Bool} (h : BoolsAt w ao xs) (hc : Chg w w' D) (hd : ∀ a, ao = some a → ¬ D a.block) : BoolsAt w' ao xs := by
  rcases h with h | ⟨b, o, rfl, hx⟩
  · exact Or.inl h
  · exact Or.inr ⟨b, o, rfl, fun i hi => cell_chg hc (hx i hi) (hd _ rfl)⟩
theorem BoolsAt.at {w : World} {ao : Option Addr} {xs : List Bool} (h : BoolsAt w ao xs) {k : Nat} (hk : k < xs.length) :
    ∃ b o, ao = some ⟨b, o, none⟩ ∧ (∀ i, i < xs.length → w.cell? ⟨b, o + i, none⟩ = some (.bool (xs.getD i false))) ∧ b < w.heap.size := by
  rcases h with h | ⟨b, o, rfl, hc⟩
  · subst h; simp at hk
  · exact ⟨b, o, rfl, hc, lt_of_cell (hc k hk)⟩
theorem Own.bools {w : World} {e : TypeId} {s : Sl} {xs : List Bool} (h : Own w e 1 s (bools xs)) : BoolsAt w s.a xs := by
  by_cases h0 : xs = []
  · exact Or.inl h0
  · have hp : 0 < xs.length := List.length_pos_iff.2 h0
    obtain ⟨g, ha, _⟩ := h.cell (bools_getD xs 0 hp)
    refine Or.inr ⟨g, 0, ha, fun i hi => ?_⟩
    obtain ⟨g', ha', hc⟩ := h.cell (bools_getD xs i hi)
    rw [ha] at ha'; simp at ha'; subst ha'
    rw [Nat.zero_add]; exact hc

def nats (xs : List Nat) : List Int := xs.map fun (k : Nat) => (k : Int)

/-- How a transaction goes. -/
structure Crs where
  did : List Nat
  ab : Bool
  out : Int
  ws : List Slot
  said : List Bool

/-- A transaction that came in, and where its lists lie. -/
structure Tsk where
  tx : Tx
  crs : Crs
  ended : Bool
  gone : List Bool
  h : TH
  didS : Sl
  wsS : Sl
  saidS : Sl
  goneS : Sl

def Tsk.row (t : Tsk) : List Value :=
  [.slice t.h.r.a t.h.r.n t.h.r.c, .slice t.h.w.a t.h.w.n t.h.w.c, .slice t.h.c.a t.h.c.n t.h.c.c, .slice t.didS.a t.didS.n t.didS.c, .bool t.crs.ab, .int .i64 t.crs.out, .slice t.wsS.a t.wsS.n t.wsS.c, .slice t.saidS.a t.saidS.n t.saidS.c, .bool t.ended, .slice t.goneS.a t.goneS.n t.goneS.c]

def Tsk.imm (t : Tsk) : List Nat := t.h.r.blk ++ (t.h.w.blk ++ (t.h.c.blk ++ (t.didS.blk ++ (t.wsS.blk ++ t.saidS.blk))))

/-- What a transaction's cells lead to. -/
structure TskAt (w : World) (t : Tsk) : Prop where
  tx : TxAt w t.h t.tx
  did : IntsAt w t.didS.a (nats t.crs.did)
  didn : t.didS.n = t.crs.did.length
  ws : SlotsAt w t.wsS.a t.crs.ws
  wsn : t.wsS.n = t.crs.ws.length
  wsl : t.crs.ws.length = t.tx.w.length
  said : BoolsAt w t.saidS.a t.crs.said
  saidn : t.saidS.n = t.crs.said.length
  saidl : t.crs.said.length = t.tx.w.length
  gone : Own w 4 1 t.goneS (bools t.gone)
  gonen : t.goneS.n = t.gone.length
  gonel : t.gone.length = t.tx.w.length
  chk : checkN t.tx = 0

structure RM where
  b : Nat
  parts : Nat
  doers : Nat
  room : Nat
  taken : Nat
  tasks : List Tsk
  hv : List Slot
  ends : List Nat
  dealt : List Nat
  hand : List Nat
  dids : List Nat
  tkS : Sl
  hvS : Sl
  enS : Sl
  deS : Sl
  haS : Sl
  diS : Sl

def RM.row (M : RM) : List Value :=
  [.int .i64 M.parts, .int .i64 M.doers, .int .i64 M.room, .slice M.tkS.a M.tkS.n M.tkS.c, .slice M.hvS.a M.hvS.n M.hvS.c, .slice M.enS.a M.enS.n M.enS.c, .slice M.deS.a M.deS.n M.deS.c, .slice M.haS.a M.haS.n M.haS.c, .slice M.diS.a M.diS.n M.diS.c, .int .i64 M.taken]

/-- The blocks that calls write into. -/
def RM.mut (M : RM) : List Nat := M.b :: (M.tkS.blk ++ (M.hvS.blk ++ (M.enS.blk ++ (M.deS.blk ++ (M.haS.blk ++ (M.diS.blk ++ M.tasks.flatMap fun t => t.goneS.blk))))))
def RM.imm (M : RM) : List Nat := M.tasks.flatMap Tsk.imm

/-- The document's store lies in memory. -/
structure RefAt (w : World) (M : RM) : Prop where
  row : RowAt w M.b 42 M.row
  tk : Own w 171 10 M.tkS (M.tasks.flatMap Tsk.row)
  tkn : M.tkS.n = M.tasks.length
  hv : Own w 172 2 M.hvS (slotCells M.hv)
  hvn : M.hvS.n = 24
  hvl : M.hv.length = 24
  en : Own w 3 1 M.enS (ints (nats M.ends))
  enn : M.enS.n = M.ends.length
  de : Own w 3 1 M.deS (ints (nats M.dealt))
  den : M.deS.n = M.dealt.length
  del : M.dealt.length = M.parts
  ha : Own w 3 1 M.haS (ints (nats M.hand))
  han : M.haS.n = M.hand.length
  hal : M.hand.length = M.doers
  di : Own w 3 1 M.diS (ints (nats M.dids))
  din : M.diS.n = M.dids.length
  dil : M.dids.length = M.doers
  tsk : ∀ t ∈ M.tasks, TskAt w t
  nodup : M.mut.Nodup
  apart : ∀ k ∈ M.imm, k ∉ M.mut
  immlt : ∀ k ∈ M.imm, k < w.heap.size
  parts1 : 1 ≤ M.parts
  parts8 : M.parts ≤ 8
  doers1 : 1 ≤ M.doers
  doers6 : M.doers ≤ 6
  room500 : M.room ≤ 500
  txns : M.tasks.length ≤ 150
  ends1 : M.ends.length ≤ M.tasks.length
  ends2 : M.ends.length ≤ M.ends.getD (M.ends.length - 1) 0
  endsle : ∀ e ∈ M.ends, e ≤ M.tasks.length
  dealtle : ∀ d ∈ M.dealt, d ≤ M.tasks.length

end Go.Proofs.YtlheloogmgmjnaaGreat

namespace Go.Proofs.YtlheloogmgmjnaaGreat
open Go.RowKit

/-- A cell of what is owned is written. -/
theorem Own.set {w : World} {e : TypeId} {sz : Nat} {s : Sl} {xs : List Value} (h : Own w e sz s xs) {g : Nat} (ha : s.a = some ⟨g, 0, none⟩) (i : Nat) (v : Value) : Own (w.setCell ⟨g, i, none⟩ v) e sz s (xs.set i v) := by
  obtain ⟨hl, h | ⟨g', cap, cur, hv, hb, hh, hn, hm, hs, ht⟩⟩ := h
  · simp [ha] at h
  · simp [ha] at hv
    obtain ⟨h1, h2⟩ := hv
    subst h1 h2
    refine ⟨by simpa using hl, Or.inr ⟨g, s.c, (cur.toList.set i v).toArray, by rw [ha], hb, ?_, hn, hm, by simpa using hs, ?_⟩⟩
    · have hr : RowAt w g e cur.toList := by simpa [RowAt] using hh
      exact hr.set i v
    · rw [← ht, List.toList_toArray, List.take_set]

theorem Own.frozen {w : World} {e : TypeId} {sz : Nat} {s : Sl} {xs : List Value} (h : Own w e sz s xs) {g : Nat} (ha : s.a = some ⟨g, 0, none⟩) (i : Nat) : w.frozen? ⟨g, i, none⟩ = false := by
  rcases h.row with ⟨rfl, _⟩ | ⟨g', cur, ha', hr, _⟩
  · simp [Sl.nil] at ha
  · rw [ha] at ha'; simp at ha'; subst ha'; exact hr.frozen i

/-- A slot of what is owned is written. -/
theorem Own.setSlot {w : World} {e : TypeId} {s : Sl} {l : List Slot} (h : Own w e 2 s (slotCells l)) {g : Nat} (ha : s.a = some ⟨g, 0, none⟩) {n : Nat} (hn : n < l.length) (x : Slot) :
    Own ((w.setCell ⟨g, n * 2, none⟩ (.int .i64 x.v)).setCell ⟨g, n * 2 + 1, none⟩ (.bool x.th)) e 2 s (slotCells (l.set n x)) := by
  have := (h.set ha (n * 2) (.int .i64 x.v)).set ha (n * 2 + 1) (.bool x.th)
  rwa [slotCells_set l x n hn] at this

end Go.Proofs.YtlheloogmgmjnaaGreat

namespace Go.Proofs.YtlheloogmgmjnaaGreat
open Go.RowKit

theorem nats_length (xs : List Nat) : (nats xs).length = xs.length := by simp [nats]
theorem nats_getD (xs : List Nat) (k : Nat) : (nats xs).getD k 0 = ((xs.getD k 0 : Nat) : Int) := by
  simp [nats, List.getD]; cases xs[k]? <;> simp

theorem flat10 (l : List Tsk) : ∀ i, i < l.length → ∀ j, j < 10 → (l.flatMap Tsk.row)[i * 10 + j]? = ((l[i]?).map Tsk.row).bind (fun r => r[j]?) := by
  induction l with
  | nil => intro i hi; simp at hi
  | cons x r ih =>
    intro i hi j hj
    rw [List.flatMap_cons]
    cases i with
    | zero =>
      rw [List.getElem?_append_left (by simp [Tsk.row]; omega)]
      simp
    | succ i =>
      have := ih i (by simpa using hi) j hj
      rw [List.getElem?_append_right (by simp [Tsk.row]; omega), show (i + 1) * 10 + j - (Tsk.row x).length = i * 10 + j by simp [Tsk.row]; omega, this]
      simp

/-- The cells of the i-th transaction. -/
theorem RefAt.task {w : World} {M : RM} (h : RefAt w M) {i : Nat} (hi : i < M.tasks.length) : ∃ g, M.tkS.a = some ⟨g, 0, none⟩ ∧ g < w.heap.size ∧ ∀ j v, (M.tasks[i].row)[j]? = some v → w.cell? ⟨g, i * 10 + j, none⟩ = some v := by
  have h0 : (M.tasks.flatMap Tsk.row)[i * 10 + 0]? = some (.slice M.tasks[i].h.r.a M.tasks[i].h.r.n M.tasks[i].h.r.c) := by
    rw [flat10 _ i hi 0 (by omega)]; simp [hi, Tsk.row]
  obtain ⟨g, ha, hc⟩ := h.tk.cell h0
  refine ⟨g, ha, lt_of_cell hc, fun j v hv => ?_⟩
  have hj : j < 10 := by have := (List.getElem?_eq_some_iff.1 hv).1; simpa [Tsk.row] using this
  obtain ⟨g', ha', hc'⟩ := h.tk.cell (i := i * 10 + j) (v := v) (by rw [flat10 _ i hi j hj]; simp [hi, hv])
  rw [ha] at ha'; simp at ha'; subst ha'
  exact hc'

def RM.closed (M : RM) : Nat := M.ends.getD (M.ends.length - 1) 0

set_option maxHeartbeats 400000 in
set_option maxRecDepth 100000 in
theorem rclosed_any (M : RM) (w : World) (h : RefAt w M) :
    Calls Tryz.prog 74 #[.pointer (some ⟨M.b, 0, none⟩)] w fun e w' => e = .returned (.int .i64 M.closed) ∧ ∃ n, w' = w.drewN n := by
  have c5 := h.row.cell' (i := 5) (v := .slice M.enS.a M.enS.n M.enS.c) rfl
  have hI := h.en.ints
  have hn := h.enn
  have ht := h.txns
  have ht1 := h.ends1
  have hlt := h.row.lt
  clear h
  rw [hn] at c5
  by_cases h0 : M.ends.length = 0
  · have hc : M.closed = 0 := by simp [RM.closed, List.eq_nil_of_length_eq_zero h0]
    rw [hc]
    have h0' : ((M.ends.length : Int) == 0) = true := by rw [beq_iff_eq]; omega
    clear hI hn h0 ht ht1
    generalize M.ends.length = n at *
    go_enter Tryz.func74, Tryz.ntmps74
    go_wp2
    go_ret
    exact ⟨rfl, 0, rfl⟩
  · have h0' : ((M.ends.length : Int) == 0) = false := by rw [beq_eq_false_iff_ne]; omega
    obtain ⟨b, o, hb, hc, _⟩ := hI.at (k := M.ends.length - 1) (by rw [nats_length]; omega)
    replace hc := hc (M.ends.length - 1) (by rw [nats_length]; omega)
    rw [nats_getD] at hc
    rw [hb] at c5
    have HC := hide (show M.closed = M.ends.getD (M.ends.length - 1) 0 from rfl)
    generalize M.ends.getD (M.ends.length - 1) 0 = y at *
    obtain ⟨n, hn'⟩ : ∃ n, M.ends.length = n + 1 := ⟨M.ends.length - 1, by omega⟩
    rw [hn'] at c5 h0' hc ht1
    simp only [Nat.add_sub_cancel] at hc
    clear hn' hn hI h0 hb
    go_enter Tryz.func74, Tryz.ntmps74
    go_wp2
    go_quiet (fail)
    go_wp2
    go_ret
    exact ⟨ret_int (by rw [HC.out]), _, rfl⟩

def RM.done (M : RM) : Nat := (M.tasks.takeWhile (·.ended)).length

theorem takeWhile_at {α : Type} (l : List α) (p : α → Bool) {k : Nat} (hk : k < l.length) (ha : (l.take k).all p = true) (hn : p l[k] = false) : (l.takeWhile p).length = k := by
  induction l generalizing k with
  | nil => simp at hk
  | cons x r ih =>
    cases k with
    | zero => simp at hn; simp [hn]
    | succ k =>
      simp at ha
      have := ih (k := k) (by simpa using hk) (by simp; exact ha.2) (by simpa using hn)
      simp [ha.1, this]

theorem takeWhile_all {α : Type} (l : List α) (p : α → Bool) (ha : l.all p = true) : (l.takeWhile p).length = l.length := by
  induction l with
  | nil => rfl
  | cons x r ih => simp at ha; simp [ha.1]; exact ih (by simp; exact ha.2)

theorem all_take_succ {α : Type} (l : List α) (p : α → Bool) {k : Nat} (hk : k < l.length) : (l.take (k + 1)).all p = ((l.take k).all p && p l[k]) := by
  rw [List.take_succ_eq_append_getElem hk, List.all_append]; simp

set_option maxHeartbeats 400000 in
set_option maxRecDepth 100000 in
theorem rdone_any (M : RM) (w : World) (h : RefAt w M) :
    Calls Tryz.prog 76 #[.pointer (some ⟨M.b, 0, none⟩)] w fun e w' => e = .returned (.int .i64 M.done) ∧ w' = w := by
  have c3 := h.row.cell' (i := 3) (v := .slice M.tkS.a M.tkS.n M.tkS.c) rfl
  rw [h.tkn] at c3
  have ht := h.txns
  have hlt := h.row.lt
  have H := hide h
  clear h
  go_enter Tryz.func76, Tryz.ntmps76
  go_wp2
  go_loop [3] (fun t => ∃ k : Nat, k ≤ M.tasks.length ∧ t = .int .i64 k ∧ (M.tasks.take k).all (·.ended) = true) (fun t => M.tasks.length - (intOf t).toNat)
  case atStart => exact ⟨0, Nat.zero_le _, rfl, by simp⟩
  case round =>
    obtain ⟨k, hk, rfl, hn⟩ := hrel
    by_cases hlt2 : k < M.tasks.length
    · obtain ⟨g, hg, hgl, hc⟩ := H.out.task hlt2
      have he := hc 8 (.bool M.tasks[k].ended) rfl
      have hs := all_take_succ M.tasks (·.ended) hlt2
      have hw := takeWhile_at M.tasks (·.ended) hlt2 hn
      rw [hn] at hs
      rw [hg] at c3
      generalize hq : M.tasks[k].ended = q at *
      have HS := hide hs; have HW := hide hw
      clear hs hw hn hc hq hg
      cases q
      · go_wp2
        go_ret
        exact ⟨ret_int (by rw [RM.done, HW.out (by trivial)]), rfl⟩
      · go_wp2
        go_round
        case rel => exact ⟨k + 1, by omega, by go_num, by rw [HS.out]; rfl⟩
        case measure => simp [intOf]; omega
    · have hw := hide (takeWhile_all M.tasks (·.ended) (by rw [List.take_of_length_le (by omega)] at hn; exact hn))
      have hkk : k = M.tasks.length := by omega
      subst hkk
      clear hn
      go_wp2
      go_ret
      exact ⟨ret_int (by rw [RM.done, hw.out]), rfl⟩

/-- How many of them have not gone. -/
def stay (l : List Bool) : Nat := l.countP (fun b => !b)
def RM.used (M : RM) : Nat := (M.tasks.map fun t => stay t.gone).sum

theorem stay_succ (l : List Bool) {k : Nat} (hk : k < l.length) : stay (l.take (k + 1)) = stay (l.take k) + (if l.getD k false then 0 else 1) := by
  unfold stay
  rw [List.take_succ_eq_append_getElem hk, List.countP_append]
  simp [List.getD, hk, List.countP_cons]
  cases l[k] <;> rfl

theorem stay_le (l : List Bool) : stay l ≤ l.length := List.countP_le_length

theorem sum_take_succ {α : Type} (l : List α) (f : α → Nat) {k : Nat} (hk : k < l.length) : ((l.take (k + 1)).map f).sum = ((l.take k).map f).sum + f l[k] := by
  rw [List.take_succ_eq_append_getElem hk, List.map_append, List.sum_append]; simp only [List.map_cons, List.map_nil, List.sum_cons, List.sum_nil, Nat.add_zero]

theorem checkN_sound (t : Tx) (h : checkN t = 0) : t.c.length ≤ 30 ∧ t.r.length ≤ 6 ∧ t.w.length ≤ 6 ∧ (∀ n ∈ t.r, 0 ≤ n ∧ n < 24) ∧ (∀ n ∈ t.w, 0 ≤ n ∧ n < 24) ∧ (∀ x ∈ t.c, soundB x t.r.length t.w.length = true) := by
  unfold checkN at h
  by_cases h1 : longB t = true
  · simp [h1] at h
  simp only [h1] at h
  by_cases h2 : ((t.r.any fun n => !bel n 24) || (t.w.any fun n => !bel n 24)) = true
  · simp [h2] at h
  simp only [h2] at h
  by_cases h3 : (twiceTo t.r t.r.length || twiceTo t.w t.w.length) = true
  · simp [h3] at h
  simp only [h3] at h
  by_cases h4 : unsoundB t = true
  · simp [h4] at h
  simp [longB] at h1
  simp [bel] at h2
  simp [unsoundB] at h4
  exact ⟨by omega, by omega, by omega, h2.1, h2.2, h4⟩

set_option maxHeartbeats 1000000 in
set_option maxRecDepth 100000 in
theorem rused_any (M : RM) (w : World) (h : RefAt w M) :
    Calls Tryz.prog 78 #[.pointer (some ⟨M.b, 0, none⟩)] w fun e w' => e = .returned (.int .i64 M.used) ∧ w' = w := by
  have c3 := h.row.cell' (i := 3) (v := .slice M.tkS.a M.tkS.n M.tkS.c) rfl
  rw [h.tkn] at c3
  have ht := h.txns
  have hlt := h.row.lt
  have H := hide h
  clear h
  go_enter Tryz.func78, Tryz.ntmps78
  go_wp2
  go_loop [3, 4] (fun n t => ∃ k : Nat, k ≤ M.tasks.length ∧ t = .int .i64 k ∧ n = .int .i64 (((M.tasks.take k).map fun t => stay t.gone).sum : Nat) ∧ ((M.tasks.take k).map fun t => stay t.gone).sum ≤ k * 6) (fun _ t => M.tasks.length - (intOf t).toNat)
  case atStart => exact ⟨0, Nat.zero_le _, rfl, rfl, by simp⟩
  case round =>
    obtain ⟨k, hk, rfl, rfl, hle⟩ := hrel
    by_cases hlt2 : k < M.tasks.length
    · obtain ⟨g, hg, hgl, hc⟩ := H.out.task hlt2
      have hT := H.out.tsk _ (List.getElem_mem hlt2)
      have he := hc 9 (.slice M.tasks[k].goneS.a M.tasks[k].goneS.n M.tasks[k].goneS.c) rfl
      have hs := sum_take_succ M.tasks (fun t => stay t.gone) hlt2
      rw [hT.gonen] at he
      rw [hg] at c3
      have hB := hT.gone.bools
      have hw6 := (checkN_sound _ hT.chk).2.2.1
      have hgl6 := hT.gonel
      clear hT hc hg
      generalize M.tasks[k] = T at *
      generalize ((M.tasks.take k).map fun t => stay t.gone).sum = n at *
      have HS := hide hs
      have HB := hide hB
      clear hs hB
      go_wp2
      go_loop [3, 5] (fun m t => ∃ j : Nat, j ≤ T.gone.length ∧ t = .int .i64 j ∧ m = .int .i64 (n + stay (T.gone.take j) : Nat)) (fun _ t => T.gone.length - (intOf t).toNat)
      case atStart => exact ⟨0, Nat.zero_le _, rfl, by simp [stay]⟩
      case round =>
        obtain ⟨j, hj, rfl, rfl⟩ := hrel
        have hst := stay_le (T.gone.take j)
        simp only [List.length_take] at hst
        by_cases hlj : j < T.gone.length
        · obtain ⟨b, o, hb, hcb, _⟩ := HB.out.at hlj
          have hbj := hcb j hlj
          have hss := stay_succ T.gone hlj
          rw [hb] at he
          generalize stay (T.gone.take j) = q at *
          have HSS := hide hss
          clear hss hcb
          generalize T.gone.getD j false = y at *
          cases y
          · go_wp2
            go_round
            case rel => exact ⟨j + 1, by omega, by go_num, by rw [HSS.out]; go_num⟩
            case measure => simp [intOf]; omega
          · go_wp2
            go_round
            case rel => exact ⟨j + 1, by omega, by go_num, by rw [HSS.out]; go_num⟩
            case measure => simp [intOf]; omega
        · have hz := stay_le T.gone
          have ez : T.gone.take j = T.gone := List.take_of_length_le (by omega)
          rw [ez] at hst ⊢
          generalize stay T.gone = z at *
          go_wp2
          go_round
          case rel => exact ⟨k + 1, by omega, by go_num, by rw [HS.out], by rw [HS.out]; omega⟩
          case measure => simp [intOf]; omega
    · have hkk : k = M.tasks.length := by omega
      subst hkk
      have hu : M.used = ((M.tasks.take M.tasks.length).map fun t => stay t.gone).sum := by rw [List.take_length]; rfl
      have HU := hide hu
      clear hu
      generalize ((M.tasks.take M.tasks.length).map fun t => stay t.gone).sum = n at *
      go_wp2
      go_ret
      exact ⟨ret_int (by rw [HU.out]), rfl⟩

def RM.ready (M : RM) : Nat := M.ends.countP fun e => M.dealt.all fun d => decide (e ≤ d)

theorem countP_take_succ {α : Type} (l : List α) (p : α → Bool) {k : Nat} (hk : k < l.length) : (l.take (k + 1)).countP p = (l.take k).countP p + (if p l[k] then 1 else 0) := by
  rw [List.take_succ_eq_append_getElem hk, List.countP_append]; simp [List.countP_cons]

theorem nat_get {xs : List Nat} {k : Nat} (hk : k < xs.length) : xs.getD k 0 = xs[k] := by simp [List.getD, hk]

set_option maxHeartbeats 1000000 in
set_option maxRecDepth 100000 in
theorem rready_any (M : RM) (w : World) (h : RefAt w M) :
    Calls Tryz.prog 75 #[.pointer (some ⟨M.b, 0, none⟩)] w fun e w' => e = .returned (.int .i64 M.ready) ∧ ∃ n, w' = w.drewN n := by
  have c0 := h.row.cell' (i := 0) (v := .int .i64 M.parts) rfl
  have c5 := h.row.cell' (i := 5) (v := .slice M.enS.a M.enS.n M.enS.c) rfl
  have c6 := h.row.cell' (i := 6) (v := .slice M.deS.a M.deS.n M.deS.c) rfl
  rw [h.enn] at c5
  rw [h.den, h.del] at c6
  have ht := h.txns
  have ht1 := h.ends1
  have hlt := h.row.lt
  have hp8 := h.parts8
  have del := hide h.del
  have HE := hide h.en.ints
  have HD := hide h.de.ints
  have HEL := hide (fun k (hk : k < M.ends.length) => h.endsle _ (List.getElem_mem hk))
  clear h
  go_enter Tryz.func75, Tryz.ntmps75
  go_wp2
  go_loopw [3, 4] (fun n t wr => ∃ k : Nat, k ≤ M.ends.length ∧ t = .int .i64 k ∧ n = .int .i64 ((M.ends.take k).countP (fun e => M.dealt.all fun d => decide (e ≤ d)) : Nat) ∧ (M.ends.take k).countP (fun e => M.dealt.all fun d => decide (e ≤ d)) ≤ k ∧ ∃ q, wr = w.drewN q) (fun _ t _ => M.ends.length - (intOf t).toNat)
  case atStart => exact ⟨0, Nat.zero_le _, rfl, rfl, by simp, 0, rfl⟩
  case round =>
    obtain ⟨k, hk, rfl, rfl, hle, q, rfl⟩ := hrel
    by_cases hlt2 : k < M.ends.length
    · obtain ⟨b, o, hb, hcb, _⟩ := HE.out.at (k := k) (by rw [nats_length]; exact hlt2)
      have hck := hcb k (by rw [nats_length]; exact hlt2)
      rw [nats_getD, nat_get hlt2] at hck
      have hs := countP_take_succ M.ends (fun e => M.dealt.all fun d => decide (e ≤ d)) hlt2
      rw [hb] at c5
      generalize M.ends[k] = E at *
      generalize (M.ends.take k).countP (fun e => M.dealt.all fun d => decide (e ≤ d)) = n at *
      have HS := hide hs
      clear hs hcb hb HEL
      go_wp2
      go_loopw [5, 6] (fun a t wr => ∃ j : Nat, j ≤ M.parts ∧ t = .int .i64 j ∧ a = .bool ((M.dealt.take j).all fun d => decide (E ≤ d)) ∧ ∃ q, wr = w.drewN q) (fun _ t _ => M.parts - (intOf t).toNat)
      case atStart => exact ⟨0, Nat.zero_le _, rfl, by simp, q, rfl⟩
      case round =>
        obtain ⟨j, hj, rfl, rfl, q', rfl⟩ := hrel
        by_cases hlj : j < M.parts
        · have hld : j < M.dealt.length := by rw [del.out]; exact hlj
          obtain ⟨b2, o2, hb2, hcb2, _⟩ := HD.out.at (k := j) (by rw [nats_length]; exact hld)
          have hcj := hcb2 j (by rw [nats_length]; exact hld)
          rw [nats_getD, nat_get hld] at hcj
          rw [hb2] at c6
          have hss := all_take_succ M.dealt (fun d => decide (E ≤ d)) hld
          generalize M.dealt[j] = d at *
          have HSS := hide hss
          clear hss hcb2 hb2 HE HD
          generalize ((M.dealt.take j).all fun d => decide (E ≤ d)) = a at *
          cases a
          · go_wp2
            go_quiet (fail)
            go_wp2
            go_roundw
            case rel => exact ⟨j + 1, by omega, by go_num, by rw [HSS.out]; rfl, _, rfl⟩
            case measure => simp [intOf]; omega
          · go_wp2
            go_quiet (fail)
            go_wp2
            go_roundw
            case rel => exact ⟨j + 1, by omega, by go_num, by rw [HSS.out]; simp, _, rfl⟩
            case measure => simp [intOf]; omega
        · have ez : M.dealt.take j = M.dealt := List.take_of_length_le (by rw [del.out]; omega)
          rw [ez]
          clear HE HD
          generalize (M.dealt.all fun d => decide (E ≤ d)) = a at *
          cases a
          · go_wp2
            go_roundw
            case rel => exact ⟨k + 1, by omega, by go_num, by rw [HS.out]; rfl, by rw [HS.out]; simp; omega, _, rfl⟩
            case measure => simp [intOf]; omega
          · go_wp2
            go_roundw
            case rel => exact ⟨k + 1, by omega, by go_num, by rw [HS.out]; go_num, by rw [HS.out]; simp; omega, _, rfl⟩
            case measure => simp [intOf]; omega
    · have hkk : k = M.ends.length := by omega
      subst hkk
      have hu : M.ready = (M.ends.take M.ends.length).countP (fun e => M.dealt.all fun d => decide (e ≤ d)) := by rw [List.take_length]; rfl
      have HU := hide hu
      clear hu
      generalize (M.ends.take M.ends.length).countP (fun e => M.dealt.all fun d => decide (e ≤ d)) = n at *
      go_wp2
      go_ret
      exact ⟨ret_int (by rw [HU.out]), _, rfl⟩

/-- The last end that is not beyond d. -/
def markOf (d : Nat) (ends : List Nat) : Nat := ends.foldl (fun m e => if e ≤ d then e else m) 0
def RM.mark (M : RM) : Nat := markOf M.done M.ends

theorem markOf_succ (d : Nat) (l : List Nat) {k : Nat} (hk : k < l.length) : markOf d (l.take (k + 1)) = if l[k] ≤ d then l[k] else markOf d (l.take k) := by
  unfold markOf; rw [List.take_succ_eq_append_getElem hk, List.foldl_append]; rfl

set_option maxHeartbeats 1000000 in
set_option maxRecDepth 100000 in
theorem rmark_any (M : RM) (w : World) (h : RefAt w M) :
    Calls Tryz.prog 77 #[.pointer (some ⟨M.b, 0, none⟩)] w fun e w' => e = .returned (.int .i64 M.mark) ∧ w' = w := by
  have c5 := h.row.cell' (i := 5) (v := .slice M.enS.a M.enS.n M.enS.c) rfl
  rw [h.enn] at c5
  have ht := h.txns
  have ht1 := h.ends1
  have hlt := h.row.lt
  have HE := hide h.en.ints
  have HD := hide (rdone_any M w h)
  have HM := hide (show M.mark = markOf M.done M.ends from rfl)
  clear h
  generalize M.done = d at *
  go_enter Tryz.func77, Tryz.ntmps77
  go_wp2_with fail
  refine HD.out.mono ?_
  rintro e w' ⟨rfl, rfl⟩
  go_wp2
  go_loop [4, 5] (fun m t => ∃ k : Nat, k ≤ M.ends.length ∧ t = .int .i64 k ∧ m = .int .i64 (markOf d (M.ends.take k) : Nat)) (fun _ t => M.ends.length - (intOf t).toNat)
  case atStart => exact ⟨0, Nat.zero_le _, rfl, rfl⟩
  case round =>
    obtain ⟨k, hk, rfl, rfl⟩ := hrel
    by_cases hlt2 : k < M.ends.length
    · obtain ⟨b, o, hb, hcb, _⟩ := HE.out.at (k := k) (by rw [nats_length]; exact hlt2)
      have hck := hcb k (by rw [nats_length]; exact hlt2)
      rw [nats_getD, nat_get hlt2] at hck
      have hs := markOf_succ d M.ends hlt2
      rw [hb] at c5
      generalize M.ends[k] = E at *
      generalize markOf d (M.ends.take k) = m at *
      have HS := hide hs
      clear hs hcb hb HE
      by_cases hEd : (E : Int) ≤ (d : Int)
      · go_wp2
        go_round
        case rel => exact ⟨k + 1, by omega, by go_num, by rw [HS.out, if_pos (by omega)]⟩
        case measure => simp [intOf]; omega
      · go_wp2
        go_round
        case rel => exact ⟨k + 1, by omega, by go_num, by rw [HS.out, if_neg (by omega)]⟩
        case measure => simp [intOf]; omega
    · have ez : M.ends.take k = M.ends := List.take_of_length_le (by omega)
      rw [ez]
      clear HE
      generalize markOf d M.ends = m at *
      go_wp2
      go_ret
      exact ⟨ret_int (by rw [HM.out]), rfl⟩

end Go.Proofs.YtlheloogmgmjnaaGreat

namespace Go.Proofs.YtlheloogmgmjnaaGreat
open Go.RowKit

/-- The first of n numbers for which p holds; -1: none. -/
def firstN (p : Nat → Bool) (n : Nat) : Int := match (List.range n).find? p with | some k => (k : Int) | none => -1

theorem firstN_at {p : Nat → Bool} {n k : Nat} (hk : k < n) (hp : p k = true) (hn : ∀ j, j < k → p j = false) : firstN p n = k := by
  have : (List.range n).find? p = some k := by
    rw [List.find?_range_eq_some]
    exact ⟨hp, List.mem_range.2 hk, fun j hj => by simp [hn j hj]⟩
  simp [firstN, this]
theorem firstN_none {p : Nat → Bool} {n : Nat} (hn : ∀ j, j < n → p j = false) : firstN p n = -1 := by
  have : (List.range n).find? p = none := by
    rw [List.find?_eq_none]
    intro j hj
    simp [hn j (List.mem_range.1 hj)]
  simp [firstN, this]
theorem firstN_ge (p : Nat → Bool) (n : Nat) : -1 ≤ firstN p n := by
  unfold firstN; split <;> omega

def Tsk.wr (t : Tsk) (key : Int) : Int := firstN (fun k => t.tx.w.getD k 0 == key && !t.gone.getD k false) t.tx.w.length

set_option maxHeartbeats 1000000 in
set_option maxRecDepth 100000 in
theorem rwrites_any (M : RM) (w : World) (h : RefAt w M) (i : Nat) (hi : i < M.tasks.length) (key : Int) :
    Calls Tryz.prog 117 #[.pointer (some ⟨M.b, 0, none⟩), .int .i64 i, .int .i64 key] w fun e w' => e = .returned (.int .i64 (M.tasks[i].wr key)) ∧ w' = w := by
  have c3 := h.row.cell' (i := 3) (v := .slice M.tkS.a M.tkS.n M.tkS.c) rfl
  rw [h.tkn] at c3
  have ht := h.txns
  have hlt := h.row.lt
  obtain ⟨g, hg, hgl, hc⟩ := h.task hi
  have hT := h.tsk _ (List.getElem_mem hi)
  rw [hg] at c3
  clear h hg
  generalize M.tasks[i] = T at *
  have e1 := hc 1 (.slice T.h.w.a T.h.w.n T.h.w.c) rfl
  have e9 := hc 9 (.slice T.goneS.a T.goneS.n T.goneS.c) rfl
  rw [hT.gonen, hT.gonel] at e9
  rw [hT.tx.wl] at e1
  have hw6 := (checkN_sound _ hT.chk).2.2.1
  have HI := hide hT.tx.wi
  have HB := hide hT.gone.bools
  have gl := hide hT.gonel
  clear hT hc
  have HW := hide (show T.wr key = firstN (fun k => T.tx.w.getD k 0 == key && !T.gone.getD k false) T.tx.w.length from rfl)
  go_enter Tryz.func117, Tryz.ntmps117
  go_wp2
  go_loop [7] (fun t => ∃ k : Nat, k ≤ T.tx.w.length ∧ t = .int .i64 k ∧ ∀ j, j < k → (T.tx.w.getD j 0 == key && !T.gone.getD j false) = false) (fun t => T.tx.w.length - (intOf t).toNat)
  case atStart => exact ⟨0, Nat.zero_le _, rfl, fun j hj => by omega⟩
  case round =>
    obtain ⟨k, hk, rfl, hn⟩ := hrel
    have HN := hide hn
    clear hn
    by_cases hlk : k < T.tx.w.length
    · obtain ⟨b, o, hb, hcb, _⟩ := HI.out.at hlk
      have hbk := hcb k hlk
      obtain ⟨b2, o2, hb2, hcb2, _⟩ := HB.out.at (k := k) (by rw [gl.out]; exact hlk)
      have hgk := hcb2 k (by rw [gl.out]; exact hlk)
      rw [hb] at e1
      rw [hb2] at e9
      clear hcb hcb2 hb hb2
      have HK := hide (fun (h : (T.tx.w.getD k 0 == key && !T.gone.getD k false) = true) => firstN_at (p := fun k => T.tx.w.getD k 0 == key && !T.gone.getD k false) hlk h HN.out)
      have HK2 : Hid ((T.tx.w.getD k 0 == key && !T.gone.getD k false) = false → ∀ j, j < k + 1 → (T.tx.w.getD j 0 == key && !T.gone.getD j false) = false) := fun h j hj => by
        by_cases hjk : j < k
        · exact HN.out j hjk
        · have : j = k := by omega
          subst this; exact h
      clear HN
      generalize T.tx.w.getD k 0 = y at *
      generalize T.gone.getD k false = q at *
      by_cases hy : y = key
      · have hy' : (y == key) = true := by simp [hy]
        have HY := hide hy
        clear hy
        cases q
        · go_wp2
          go_ret
          exact ⟨ret_int (by rw [HW.out, HK.out (by simp [HY.out])]), rfl⟩
        · go_wp2
          go_round
          case rel => exact ⟨k + 1, by omega, by go_num, HK2.out (by simp)⟩
          case measure => simp [intOf]; omega
      · have hy' : (y == key) = false := by simp [hy]
        go_wp2
        go_round
        case rel => exact ⟨k + 1, by omega, by go_num, HK2.out (by simp [hy])⟩
        case measure => simp [intOf]; omega
    · have hkk : k = T.tx.w.length := by omega
      have hf := hide (firstN_none (n := T.tx.w.length) (p := fun k => T.tx.w.getD k 0 == key && !T.gone.getD k false) (by rw [← hkk]; exact HN.out))
      go_wp2
      go_ret
      exact ⟨ret_int (by rw [HW.out, hf.out]), rfl⟩

theorem TskAt.chg {w w' : World} {D : Nat → Prop} {t : Tsk} (h : TskAt w t) (hc : Chg w w' D) (hi : ∀ k ∈ t.imm, ¬ D k) (hg : ∀ k ∈ t.goneS.blk, ¬ D k) : TskAt w' t := by
  have hb : ∀ (s : Sl), (∀ k ∈ s.blk, ¬ D k) → ∀ a, s.a = some a → ¬ D a.block := fun s hs a ha => hs _ (by simp [Sl.blk, ha])
  have h1 : ∀ k ∈ t.h.r.blk, ¬ D k := fun k hk => hi k (by simp [Tsk.imm, hk])
  have h2 : ∀ k ∈ t.h.w.blk, ¬ D k := fun k hk => hi k (by simp [Tsk.imm, hk])
  have h3 : ∀ k ∈ t.h.c.blk, ¬ D k := fun k hk => hi k (by simp [Tsk.imm, hk])
  have h4 : ∀ k ∈ t.didS.blk, ¬ D k := fun k hk => hi k (by simp [Tsk.imm, hk])
  have h5 : ∀ k ∈ t.wsS.blk, ¬ D k := fun k hk => hi k (by simp [Tsk.imm, hk])
  have h6 : ∀ k ∈ t.saidS.blk, ¬ D k := fun k hk => hi k (by simp [Tsk.imm, hk])
  exact { h with
    tx := { h.tx with ri := h.tx.ri.chg hc (hb _ h1), wi := h.tx.wi.chg hc (hb _ h2), ci := h.tx.ci.chg hc (hb _ h3) }
    did := h.did.chg hc (hb _ h4)
    ws := h.ws.chg hc (hb _ h5)
    said := h.said.chg hc (hb _ h6)
    gone := h.gone.chg hc hg }

/-- Whatever turns no block of the store leaves it as it is. -/
theorem RefAt.chg {w w' : World} {D : Nat → Prop} {M : RM} (h : RefAt w M) (hc : Chg w w' D) (hm : ∀ k ∈ M.mut, ¬ D k) (hi : ∀ k ∈ M.imm, ¬ D k) : RefAt w' M :=
  { h with
    immlt := fun k hk => Nat.lt_of_lt_of_le (h.immlt k hk) hc.size
    row := h.row.chg hc (hm _ (by simp [RM.mut]))
    tk := h.tk.chg hc (fun k hk => hm k (by simp [RM.mut, hk]))
    hv := h.hv.chg hc (fun k hk => hm k (by simp [RM.mut, hk]))
    en := h.en.chg hc (fun k hk => hm k (by simp [RM.mut, hk]))
    de := h.de.chg hc (fun k hk => hm k (by simp [RM.mut, hk]))
    ha := h.ha.chg hc (fun k hk => hm k (by simp [RM.mut, hk]))
    di := h.di.chg hc (fun k hk => hm k (by simp [RM.mut, hk]))
    tsk := fun t ht => (h.tsk t ht).chg hc (fun k hk => hi k (by simp only [RM.imm, List.mem_flatMap]; exact ⟨t, ht, hk⟩)) (fun k hk => hm k (by simp only [RM.mut, List.mem_cons, List.mem_append, List.mem_flatMap]; exact Or.inr (Or.inr (Or.inr (Or.inr (Or.inr (Or.inr (Or.inr ⟨t, ht, hk⟩)))))))) }

theorem RefAt.below {w w' : World} {M : RM} (h : RefAt w M) (hb : Below w.heap.size w w') : RefAt w' M := h.chg (Chg.of_below hb (fun _ => False)) (fun _ _ => id) (fun _ _ => id)

theorem RefAt.drewN {w : World} {M : RM} (h : RefAt w M) (n : Nat) : RefAt (w.drewN n) M := h.below (below_drewN (Below.refl _ _) n)

/-- Versions that are there. -/
def RM.liveAt (M : RM) (key i : Nat) : Bool := decide (0 ≤ ((M.tasks[i]?).map fun t => t.wr key).getD (-1))
def RM.liveOf (M : RM) (key : Nat) : Nat := (List.range (M.dealt.getD (key % M.parts) 0)).countP (M.liveAt key)
def RM.live (M : RM) : Nat := ((List.range 24).map M.liveOf).sum

theorem countP_range_succ (p : Nat → Bool) (k : Nat) : (List.range (k + 1)).countP p = (List.range k).countP p + (if p k then 1 else 0) := by
  rw [List.range_succ, List.countP_append]; simp [List.countP_cons]
theorem sum_range_succ (f : Nat → Nat) (k : Nat) : ((List.range (k + 1)).map f).sum = ((List.range k).map f).sum + f k := by
  rw [List.range_succ, List.map_append, List.sum_append]; simp

set_option maxHeartbeats 1000000 in
set_option maxRecDepth 100000 in
theorem rlive_any (M : RM) (w : World) (h : RefAt w M) :
    Calls Tryz.prog 79 #[.pointer (some ⟨M.b, 0, none⟩)] w fun e w' => e = .returned (.int .i64 M.live) ∧ ∃ n, w' = w.drewN n := by
  have c0 := h.row.cell' (i := 0) (v := .int .i64 M.parts) rfl
  have c6 := h.row.cell' (i := 6) (v := .slice M.deS.a M.deS.n M.deS.c) rfl
  rw [h.den, h.del] at c6
  have ht := h.txns
  have hlt := h.row.lt
  have hp8 := h.parts8
  have hp1 := h.parts1
  have del := hide h.del
  have HD := hide h.de.ints
  have HW := hide (fun q i hi key => rwrites_any M (w.drewN q) (h.drewN q) i hi key)
  have DL := hide (fun k (hk : k < M.dealt.length) => h.dealtle _ (List.getElem_mem hk))
  clear h
  go_enter Tryz.func79, Tryz.ntmps79
  go_wp2
  go_loopw [3, 4] (fun n t wr => ∃ k : Nat, k ≤ 24 ∧ t = .int .i64 k ∧ n = .int .i64 (((List.range k).map M.liveOf).sum : Nat) ∧ ((List.range k).map M.liveOf).sum ≤ k * 150 ∧ ∃ q, wr = w.drewN q) (fun _ t _ => 24 - (intOf t).toNat)
  case atStart => exact ⟨0, Nat.zero_le _, rfl, rfl, by simp, 0, rfl⟩
  case round =>
    obtain ⟨k, hk, rfl, rfl, hle, q, rfl⟩ := hrel
    by_cases hlt2 : k < 24
    · have hs := sum_range_succ M.liveOf k
      generalize ((List.range k).map M.liveOf).sum = n at *
      have hmod : k % M.parts < M.parts := Nat.mod_lt _ (by omega)
      have hld : k % M.parts < M.dealt.length := by rw [del.out]; exact hmod
      obtain ⟨b2, o2, hb2, hcb2, _⟩ := HD.out.at (k := k % M.parts) (by rw [nats_length]; exact hld)
      have hcj := hcb2 (k % M.parts) (by rw [nats_length]; exact hld)
      rw [nats_getD] at hcj
      have hD := DL.out _ hld
      rw [← nat_get hld] at hD
      have HS := hide hs
      have HL := hide (show M.liveOf k = (List.range (M.dealt.getD (k % M.parts) 0)).countP (M.liveAt k) from rfl)
      rw [hb2] at c6
      generalize M.dealt.getD (k % M.parts) 0 = D at *
      clear hs hcb2 hb2 HD hld DL
      have HM := hide hmod
      clear hmod
      have hd24 : decide ((k : Int) < 24) = true := by simp; omega
      go_wp2
      go_loopw [3, 5] (fun m t wr => ∃ j : Nat, j ≤ D ∧ t = .int .i64 j ∧ m = .int .i64 (n + (List.range j).countP (M.liveAt k) : Nat) ∧ (List.range j).countP (M.liveAt k) ≤ j ∧ ∃ q, wr = w.drewN q) (fun _ t _ => D - (intOf t).toNat)
      case atStart => exact ⟨0, Nat.zero_le _, rfl, by simp, by simp, q, rfl⟩
      case round =>
        obtain ⟨j, hj, rfl, rfl, hcle, q', rfl⟩ := hrel
        have hmod := HM.out
        have hdiv : Op.intDiv .rem .i64 (k : Int) (M.parts : Int) = pure (.int .i64 ((k % M.parts : Nat) : Int)) := by
          unfold Op.intDiv
          rw [if_neg (by omega)]
          simp only
          rw [Int.tmod_eq_emod_of_nonneg (by omega)]
          rfl
        by_cases hlj : j < D
        · have hss := countP_range_succ (M.liveAt k) j
          generalize (List.range j).countP (M.liveAt k) = c at *
          have HSS := hide hss
          clear hss
          have hjT : j < M.tasks.length := by omega
          have HWj := hide (fun q => HW.out q j hjT (k : Int))
          have HLA : Hid (M.liveAt k j = decide (0 ≤ M.tasks[j].wr k)) := by
            show M.liveAt k j = _
            simp [RM.liveAt, hjT]
          generalize M.tasks[j].wr (k : Int) = z at *
          by_cases hz : 0 ≤ z
          · have RR : Hid (∀ q : Nat, ∃ j' : Nat, j' ≤ D ∧ Value.int .i64 ((j : Int) + 1) = .int .i64 j' ∧ Value.int .i64 ((n : Int) + (c : Int) + 1) = .int .i64 (n + (List.range j').countP (M.liveAt k) : Nat) ∧ (List.range j').countP (M.liveAt k) ≤ j' ∧ ∃ q2, w.drewN q = w.drewN q2) := by
              intro q
              refine ⟨j + 1, by omega, by go_num, ?_, ?_, q, rfl⟩
              · rw [HSS.out, HLA.out]; simp only [hz, decide_true, if_true]; go_num
              · rw [HSS.out]; split <;> omega
            go_wp2
            go_quiet (fail)
            go_wp2_with fail
            refine (HWj.out _).mono ?_
            rintro e w' ⟨rfl, rfl⟩
            go_wp2
            go_roundw
            case rel => exact RR.out _
            case measure => simp [intOf]; omega
          · have RR : Hid (∀ q : Nat, ∃ j' : Nat, j' ≤ D ∧ Value.int .i64 ((j : Int) + 1) = .int .i64 j' ∧ Value.int .i64 ((n : Int) + (c : Int)) = .int .i64 (n + (List.range j').countP (M.liveAt k) : Nat) ∧ (List.range j').countP (M.liveAt k) ≤ j' ∧ ∃ q2, w.drewN q = w.drewN q2) := by
              intro q
              refine ⟨j + 1, by omega, by go_num, ?_, ?_, q, rfl⟩
              · rw [HSS.out, HLA.out]; simp only [hz, decide_false, Bool.false_eq_true, if_false]; go_num
              · rw [HSS.out]; split <;> omega
            go_wp2
            go_quiet (fail)
            go_wp2_with fail
            refine (HWj.out _).mono ?_
            rintro e w' ⟨rfl, rfl⟩
            go_wp2
            go_roundw
            case rel => exact RR.out _
            case measure => simp [intOf]; omega
        · have hjj : j = D := by omega
          subst hjj
          rw [← HL.out] at hcle ⊢
          generalize M.liveOf k = z at *
          clear HW
          go_wp2
          go_quiet (fail)
          go_wp2
          go_roundw
          case rel => exact ⟨k + 1, by omega, by go_num, by rw [HS.out], by rw [HS.out]; omega, _, rfl⟩
          case measure => simp [intOf]; omega
    · have hkk : k = 24 := by omega
      subst hkk
      have HU := hide (show M.live = ((List.range 24).map M.liveOf).sum from rfl)
      generalize ((List.range 24).map M.liveOf).sum = n at *
      clear HW HD
      go_wp2
      go_ret
      exact ⟨ret_int (by rw [HU.out]), _, rfl⟩

end Go.Proofs.YtlheloogmgmjnaaGreat

namespace Go.Proofs.YtlheloogmgmjnaaGreat
open Go.RowKit

theorem soundB_cases {x : Ins} {nr nw : Int} (h : soundB x nr nw = true) : 1 ≤ x.op ∧ x.op ≤ 11 ∧
    (x.op ≤ 7 ∨ x.op = 10 → 0 ≤ x.a ∧ x.a < 6) ∧ ((2 ≤ x.op ∧ x.op ≤ 5) ∨ x.op = 8 → 0 ≤ x.b ∧ x.b < 6) ∧ ((2 ≤ x.op ∧ x.op ≤ 5) → 0 ≤ x.c ∧ x.c < 6) ∧
    (x.op = 6 ∨ x.op = 7 → 0 ≤ x.b ∧ x.b < nr) ∧ (x.op = 8 ∨ x.op = 9 → 0 ≤ x.a ∧ x.a < nw) ∧ (x.op = 10 → 1 ≤ x.b ∧ x.b ≤ 30) := by
  obtain ⟨op, a, b, c⟩ := x
  simp only [soundB] at h ⊢
  split at h
  · simp [bel] at h; omega
  split at h
  · simp [bel] at h; omega
  split at h
  · simp [bel] at h; omega
  split at h
  · simp [bel] at h; omega
  split at h
  · simp [bel] at h; omega
  split at h
  · simp [bel] at h; omega
  split at h
  · simp at h; omega
  · cases h

set_option maxHeartbeats 1000000 in
theorem one_any (x : Ins) (h : TH) (t : Tx) (hv : List Slot) (ha : Option Addr) (hc gr go oc : Nat) (reg : List Int) (out : List Slot) (w : World) (hs : soundB x t.r.length t.w.length = true) (hl : reg.length = 6) (ho6 : out.length = t.w.length)
    (hr : RowAt w gr 3 (ints reg)) (ho : RowAt w go 172 (slotCells out)) (hne : gr ≠ go) (hx : TxAt w h t) (hk : ∀ n ∈ t.r, 0 ≤ n ∧ n < 24) (hV : SlotsAt w ha hv) (hVl : hv.length = 24) :
    Calls Tryz.prog 156 #[x.val, .agg h.cells, .slice ha 24 hc, .slice (some ⟨gr, 0, none⟩) 6 6, .slice (some ⟨go, 0, none⟩) out.length oc] w fun e w' =>
      e = .returned (.tuple #[]) ∧ RowAt w' gr 3 (ints (oneStep x t.r hv reg out).1) ∧ RowAt w' go 172 (slotCells (oneStep x t.r hv reg out).2) ∧ Chg w w' (fun k => k = gr ∨ k = go) := by
  obtain ⟨h1, h11, hA, hB, hC, hL, hS, _⟩ := soundB_cases hs
  obtain ⟨⟨ra, rn, rc⟩, ⟨wa, wn, wc⟩, ⟨ca, cn, cc⟩⟩ := h
  obtain ⟨op, a, b, c⟩ := x
  simp only at h1 h11 hA hB hC hL hS
  have fin : ∀ {e : Ending} {w' : World} {reg' : List Int}, (e = .returned (.tuple #[]) ∧ RowAt w' gr 3 (ints reg') ∧ Chg w w' (· = gr)) →
      e = .returned (.tuple #[]) ∧ RowAt w' gr 3 (ints reg') ∧ RowAt w' go 172 (slotCells out) ∧ Chg w w' (fun k => k = gr ∨ k = go) :=
    fun ⟨a, b, c⟩ => ⟨a, b, ho.chg c (fun e => hne e.symm), c.mono (fun _ _ h => Or.inl h)⟩
  have fin2 : ∀ {e : Ending} {w' : World} {out' : List Slot}, (e = .returned (.tuple #[]) ∧ RowAt w' go 172 (slotCells out') ∧ Chg w w' (· = go)) →
      e = .returned (.tuple #[]) ∧ RowAt w' gr 3 (ints reg) ∧ RowAt w' go 172 (slotCells out') ∧ Chg w w' (fun k => k = gr ∨ k = go) :=
    fun ⟨a, b, c⟩ => ⟨a, hr.chg c hne, b, c.mono (fun _ _ h => Or.inr h)⟩
  have nat : ∀ {z : Int}, 0 ≤ z → ∃ n : Nat, z = n := fun h => ⟨_, (Int.toNat_of_nonneg h).symm⟩
  have hcase : op = 1 ∨ op = 2 ∨ op = 3 ∨ op = 4 ∨ op = 5 ∨ op = 6 ∨ op = 7 ∨ op = 8 ∨ op = 9 ∨ 9 < op := by omega
  rcases hcase with rfl | rfl | rfl | rfl | rfl | rfl | rfl | rfl | rfl | h9
  · obtain ⟨a, rfl⟩ := nat (hA (by omega)).1
    exact (one_1 a b c ra wa ca ha _ rn rc wn wc cn cc 24 hc _ oc gr reg w hl hr (by have := hA (by omega); omega)).mono fun e w' h => fin h
  · obtain ⟨a, rfl⟩ := nat (hA (by omega)).1
    obtain ⟨b, rfl⟩ := nat (hB (by omega)).1
    obtain ⟨c, rfl⟩ := nat (hC (by omega)).1
    exact (one_2 a b c ra wa ca ha _ rn rc wn wc cn cc 24 hc _ oc gr reg w hl hr (by have := hA (by omega); omega) (by have := hB (by omega); omega) (by have := hC (by omega); omega)).mono fun e w' h => fin h
  · obtain ⟨a, rfl⟩ := nat (hA (by omega)).1
    obtain ⟨b, rfl⟩ := nat (hB (by omega)).1
    obtain ⟨c, rfl⟩ := nat (hC (by omega)).1
    exact (one_3 a b c ra wa ca ha _ rn rc wn wc cn cc 24 hc _ oc gr reg w hl hr (by have := hA (by omega); omega) (by have := hB (by omega); omega) (by have := hC (by omega); omega)).mono fun e w' h => fin h
  · obtain ⟨a, rfl⟩ := nat (hA (by omega)).1
    obtain ⟨b, rfl⟩ := nat (hB (by omega)).1
    obtain ⟨c, rfl⟩ := nat (hC (by omega)).1
    exact (one_4 a b c ra wa ca ha _ rn rc wn wc cn cc 24 hc _ oc gr reg w hl hr (by have := hA (by omega); omega) (by have := hB (by omega); omega) (by have := hC (by omega); omega)).mono fun e w' h => fin h
  · obtain ⟨a, rfl⟩ := nat (hA (by omega)).1
    obtain ⟨b, rfl⟩ := nat (hB (by omega)).1
    obtain ⟨c, rfl⟩ := nat (hC (by omega)).1
    exact (one_5 a b c ra wa ca ha _ rn rc wn wc cn cc 24 hc _ oc gr reg w hl hr (by have := hA (by omega); omega) (by have := hB (by omega); omega) (by have := hC (by omega); omega)).mono fun e w' h => fin h
  · obtain ⟨a, rfl⟩ := nat (hA (by omega)).1
    obtain ⟨b, rfl⟩ := nat (hL (by omega)).1
    have hb : b < t.r.length := by have := hL (by omega); omega
    obtain ⟨k, hkk⟩ := nat (hk (t.r.getD b 0) (by simp [List.getD, hb])).1
    have hk24 : k < 24 := by have := hk (t.r.getD b 0) (by simp [List.getD, hb]); omega
    have e : oneStep ⟨6, a, b, c⟩ t.r hv reg out = (reg.set a (hv.getD k Slot.none).v, out) := by
      have e0 : oneStep ⟨6, a, b, c⟩ t.r hv reg out = (reg.set a (hv.getD (t.r.getD b 0).toNat Slot.none).v, out) := rfl
      rw [e0, hkk]; rfl
    rw [e]
    exact (one_6 a b c ra wa ca ha _ rn rc wn wc cn cc 24 hc _ oc gr reg w hl hr (by have := hA (by omega); omega) t.r hv k hx.ri hx.rl.symm hb hkk hV hVl (by omega)).mono fun e w' h => fin h
  · obtain ⟨a, rfl⟩ := nat (hA (by omega)).1
    obtain ⟨b, rfl⟩ := nat (hL (by omega)).1
    have hb : b < t.r.length := by have := hL (by omega); omega
    obtain ⟨k, hkk⟩ := nat (hk (t.r.getD b 0) (by simp [List.getD, hb])).1
    have hk24 : k < 24 := by have := hk (t.r.getD b 0) (by simp [List.getD, hb]); omega
    have e : oneStep ⟨7, a, b, c⟩ t.r hv reg out = (reg.set a (if (hv.getD k Slot.none).th then 1 else 0), out) := by
      have e0 : oneStep ⟨7, a, b, c⟩ t.r hv reg out = (reg.set a (if (hv.getD (t.r.getD b 0).toNat Slot.none).th then 1 else 0), out) := rfl
      rw [e0, hkk]; rfl
    rw [e]
    exact (one_7 a b c ra wa ca ha _ rn rc wn wc cn cc 24 hc _ oc gr reg w hl hr (by have := hA (by omega); omega) t.r hv k hx.ri hx.rl.symm hb hkk hV hVl (by omega)).mono fun e w' h => fin h
  · obtain ⟨a, rfl⟩ := nat (hS (by omega)).1
    obtain ⟨b, rfl⟩ := nat (hB (by omega)).1
    exact (one_8 a b c ra wa ca ha rn rc wn wc cn cc 24 hc oc gr go reg out w hl hr ho (by have := hS (by omega); omega) (by have := hB (by omega); omega)).mono fun e w' h => fin2 h
  · obtain ⟨a, rfl⟩ := nat (hS (by omega)).1
    exact (one_9 a b c ra wa ca ha rn rc wn wc cn cc 24 hc oc gr go out w ho (by have := hS (by omega); omega)).mono fun e w' h => fin2 h
  · have e : oneStep ⟨op, a, b, c⟩ t.r hv reg out = (reg, out) := by
      simp only [oneStep]
      rw [if_neg (by omega), if_neg (by omega), if_neg (by omega), if_neg (by omega), if_neg (by omega), if_neg (by omega), if_neg (by omega), if_neg (by omega), if_neg (by omega)]
    rw [e]
    exact (one_no op a b c ra wa ca ha _ _ rn rc wn wc cn cc 24 hc _ _ _ oc w h9).mono fun e w' ⟨h1, h2⟩ => ⟨h1, hr.below' h2, ho.below' h2, Chg.of_below h2 _⟩

end Go.Proofs.YtlheloogmgmjnaaGreat

namespace Go.Proofs.YtlheloogmgmjnaaGreat
open Go.RowKit

/-- Cells are laid over some in the middle. -/
def spl (xs : List Value) (off : Nat) (cs : List Value) : List Value := xs.take off ++ cs ++ xs.drop (off + cs.length)
theorem spl_length {xs : List Value} {off : Nat} {cs : List Value} (h : off + cs.length ≤ xs.length) : (spl xs off cs).length = xs.length := by simp [spl]; omega
theorem spl_take {cur : List Value} {off n : Nat} {cs : List Value} (h : off + cs.length ≤ n) (hn : n ≤ cur.length) : (spl cur off cs).take n = spl (cur.take n) off cs := by
  apply List.ext_getElem?
  intro i
  simp only [spl]
  by_cases hi : i < n
  · rw [List.getElem?_take_of_lt hi]
    simp only [List.getElem?_append, List.length_append, List.length_take, List.getElem?_take, List.getElem?_drop]
    have e1 : min off cur.length = off := by omega
    have e2 : min off (min n cur.length) = off := by omega
    rw [e1, e2]
    by_cases h1 : i < off + cs.length
    · simp only [h1, if_true]
      by_cases h2 : i < off
      · simp [h2, hi]
      · simp [h2]
    · simp only [h1, if_false]
      rw [if_pos (by omega)]
  · rw [List.getElem?_eq_none (by simp; omega), List.getElem?_eq_none (by simp; omega)]

theorem run_storeVar_mid {P : Program} (w : World) (g off : Nat) (ty t : TypeId) (v : Value) (cs cur : List Value) (hg : RowAt w g t cur) (hv : v.cells = cs.toArray) (hl : off + cs.length ≤ cur.length)
    (hi : (P.info? ty).map (·.size) = some cs.length) (h1 : ∀ v ∈ cs, v.oneCell' = true) :
    (storeVar ty ⟨g, off, none⟩ v).run P w = .ok () (w.setRow g (spl cur off cs).toArray) := by
  have hst := run_storeCells_at P g off t cs 0 cur.toArray w hg (by simp; omega) h1
  have e : (cur.toArray.toList.take (off + 0) ++ cs ++ cur.toArray.toList.drop (off + 0 + cs.length)) = spl cur off cs := by simp [spl]
  rw [e] at hst
  cases hq : P.info? ty with
  | none => simp [hq] at hi
  | some i =>
    have hi' : i.size = cs.length := by simpa [hq] using hi
    simp [storeVar, sizeOf, typeInfo, hq, hv, hi', hst]

/-- The store of a struct into the middle of a block, in a region: the world behind it is a letter. -/
theorem wp_store_mid {P : Program} {op : Oper} {a : Act} {w : World} {K : Act → World → Prop} {Q : Exit → Act → World → Prop} (ty : TypeId) (x y : Operand) (ho : op.op = .store ty x y)
    (g off : Nat) (hx : a.eval x = .pointer (some ⟨g, off, none⟩)) (cs cur : List Value) (t : TypeId) (hg : RowAt w g t cur) (hy : (a.eval y).cells = cs.toArray) (hl : off + cs.length ≤ cur.length)
    (hi : (P.info? ty).map (·.size) = some cs.length) (h1 : ∀ v ∈ cs, v.oneCell' = true)
    (h : ∀ w', RowAt w' g t (spl cur off cs) → Chg w w' (· = g) → w'.heap.size = w.heap.size → K (a.put op.dst undef) w') : op.wp P a w K Q := by
  unfold Oper.wp execOp
  simp only [ho, hx, Instr.storeAt, Instr.sureAddr, Sem.run_bind, Sem.run_pure, Result.andThen_ok, run_storeVar_mid w g off ty t _ cs cur hg hy hl hi h1]
  refine h _ ?_ (chg_setRow w g _) (size_setRow w g _)
  exact setRow_heap w g cur.toArray (spl cur off cs).toArray t (0, 0) hg

/-- What is owned, with cells laid over some in the middle. -/
theorem Own.splice {w w' : World} {e : TypeId} {sz : Nat} {s : Sl} {xs : List Value} (h : Own w e sz s xs) {g : Nat} (ha : s.a = some ⟨g, 0, none⟩) {off : Nat} {cs : List Value} (ho : off + cs.length ≤ xs.length)
    (hr : ∀ cur, RowAt w g e cur → RowAt w' g e (spl cur off cs)) : Own w' e sz s (spl xs off cs) := by
  obtain ⟨hl, h | ⟨g', cap, cur, hv, hb, hh, hn, hm, hs, ht⟩⟩ := h
  · simp [ha] at h
  · simp [ha] at hv
    obtain ⟨h1, h2⟩ := hv
    subst h1 h2
    have hlen : xs.length ≤ cur.toList.length := by rw [← ht]; simp; omega
    refine ⟨by rw [spl_length ho]; exact hl, Or.inr ⟨g, s.c, (spl cur.toList off cs).toArray, by rw [ha], hb, ?_, hn, hm, ?_, ?_⟩⟩
    · exact hr cur.toList (by simpa [RowAt] using hh)
    · simp only [List.size_toArray]; rw [spl_length (by omega)]; simpa using hs
    · rw [List.toList_toArray, spl_take (by omega) (by omega), ht]

theorem flatMap_set {α : Type} (row : α → List Value) (k : Nat) (hk : ∀ x, (row x).length = k) (y : α) : ∀ (l : List α) (i : Nat), i < l.length → (l.set i y).flatMap row = spl (l.flatMap row) (i * k) (row y)
  | [], i, h => by simp at h
  | x :: l, 0, _ => by simp [spl, hk]
  | x :: l, i + 1, h => by
    have ih := flatMap_set row k hk y l i (by simpa using h)
    rw [List.set_cons_succ, List.flatMap_cons, List.flatMap_cons, ih]
    have e : (i + 1) * k = k + i * k := by rw [Nat.add_mul]; omega
    simp only [spl, e]
    rw [List.take_append, List.drop_append, hk, hk]
    have e1 : k + i * k - k = i * k := by omega
    have e2 : k + i * k + k - k = i * k + k := by omega
    have t1 : (row x).take (k + i * k) = row x := List.take_of_length_le (by rw [hk]; omega)
    have t2 : (row x).drop (k + i * k + k) = [] := List.drop_eq_nil_of_le (by rw [hk]; omega)
    rw [e1, e2, t1, t2]
    simp

end Go.Proofs.YtlheloogmgmjnaaGreat

namespace Go.Proofs.YtlheloogmgmjnaaGreat
open Go.RowKit

/-- Where the code goes on. -/
def nextPc (x : Ins) (reg : List Int) (pc : Nat) : Nat := (if x.op = 10 ∧ regOf reg x.a = 0 then pc + x.b.toNat else pc) + 1
def nextSaid (x : Ins) (said : List Bool) : List Bool := if x.op = 8 ∨ x.op = 9 then said.set x.a.toNat true else said

/-- How a transaction goes on. -/
def goFrom (t : Tx) (hv bef : List Slot) : (fuel : Nat) → (pc : Nat) → (reg : List Int) → (out : List Slot) → (did : List Nat) → (said : List Bool) → Crs
  | 0, _, reg, out, did, said => ⟨did, false, reg.getD 0 0, out, said⟩
  | f + 1, pc, reg, out, did, said =>
    if pc < t.c.length then
      if (t.c.getD pc Ins.zero).op = 11 then ⟨did ++ [pc], true, reg.getD 0 0, bef, List.replicate t.w.length false⟩
      else goFrom t hv bef f (nextPc (t.c.getD pc Ins.zero) reg pc) (oneStep (t.c.getD pc Ins.zero) t.r hv reg out).1 (oneStep (t.c.getD pc Ins.zero) t.r hv reg out).2 (did ++ [pc]) (nextSaid (t.c.getD pc Ins.zero) said)
    else ⟨did, false, reg.getD 0 0, out, said⟩

theorem lt_nextPc (x : Ins) (reg : List Int) (pc : Nat) : pc < nextPc x reg pc := by unfold nextPc; split <;> omega

theorem goFrom_fuel (t : Tx) (hv bef : List Slot) : ∀ (f g pc : Nat) (reg : List Int) (out : List Slot) (did : List Nat) (said : List Bool), t.c.length ≤ pc + f → t.c.length ≤ pc + g → goFrom t hv bef f pc reg out did said = goFrom t hv bef g pc reg out did said := by
  intro f
  induction f with
  | zero =>
    intro g pc reg out did said hf hg
    cases g with
    | zero => rfl
    | succ g => simp only [goFrom]; rw [if_neg (by omega)]
  | succ f ih =>
    intro g pc reg out did said hf hg
    cases g with
    | zero => simp only [goFrom]; rw [if_neg (by omega)]
    | succ g =>
      simp only [goFrom]
      by_cases h : pc < t.c.length
      · rw [if_pos h, if_pos h]
        by_cases h2 : (t.c.getD pc Ins.zero).op = 11
        · rw [if_pos h2, if_pos h2]
        · rw [if_neg h2, if_neg h2]
          have := lt_nextPc (t.c.getD pc Ins.zero) reg pc
          exact ih g _ _ _ _ _ (by omega) (by omega)
      · rw [if_neg h, if_neg h]

def goAt (t : Tx) (hv bef : List Slot) (pc : Nat) (reg : List Int) (out : List Slot) (did : List Nat) (said : List Bool) : Crs := goFrom t hv bef t.c.length pc reg out did said

theorem goAt_end {t : Tx} {hv bef : List Slot} {pc : Nat} {reg : List Int} {out : List Slot} {did : List Nat} {said : List Bool} (h : ¬ pc < t.c.length) : goAt t hv bef pc reg out did said = ⟨did, false, reg.getD 0 0, out, said⟩ := by
  unfold goAt
  rw [goFrom_fuel t hv bef t.c.length 0 pc reg out did said (by omega) (by omega)]
  rfl
theorem goAt_abort {t : Tx} {hv bef : List Slot} {pc : Nat} {reg : List Int} {out : List Slot} {did : List Nat} {said : List Bool} (h : pc < t.c.length) (h2 : (t.c.getD pc Ins.zero).op = 11) : goAt t hv bef pc reg out did said = ⟨did ++ [pc], true, reg.getD 0 0, bef, List.replicate t.w.length false⟩ := by
  unfold goAt
  rw [goFrom_fuel t hv bef t.c.length (t.c.length + 1) pc reg out did said (by omega) (by omega)]
  simp only [goFrom]; rw [if_pos h, if_pos h2]
theorem goAt_next {t : Tx} {hv bef : List Slot} {pc : Nat} {reg : List Int} {out : List Slot} {did : List Nat} {said : List Bool} (h : pc < t.c.length) (h2 : (t.c.getD pc Ins.zero).op ≠ 11) :
    goAt t hv bef pc reg out did said = goAt t hv bef (nextPc (t.c.getD pc Ins.zero) reg pc) (oneStep (t.c.getD pc Ins.zero) t.r hv reg out).1 (oneStep (t.c.getD pc Ins.zero) t.r hv reg out).2 (did ++ [pc]) (nextSaid (t.c.getD pc Ins.zero) said) := by
  unfold goAt
  rw [goFrom_fuel t hv bef t.c.length (t.c.length + 1) pc reg out did said (by omega) (by omega)]
  simp only [goFrom]; rw [if_pos h, if_neg h2]

/-- What the keys that are written have ahead. -/
def befOf (t : Tx) (hv : List Slot) : List Slot := t.w.map fun k => hv.getD k.toNat Slot.none
def goCrs (t : Tx) (hv : List Slot) : Crs := goAt t hv (befOf t hv) 0 (List.replicate 6 0) (befOf t hv) [] (List.replicate t.w.length false)

theorem oneStep_len (x : Ins) (R : List Int) (hv : List Slot) (reg : List Int) (out : List Slot) : (oneStep x R hv reg out).1.length = reg.length ∧ (oneStep x R hv reg out).2.length = out.length := by
  unfold oneStep; repeat' split
  all_goals simp
theorem nextSaid_len (x : Ins) (said : List Bool) : (nextSaid x said).length = said.length := by unfold nextSaid; split <;> simp

theorem goFrom_len (t : Tx) (hv bef : List Slot) (hb : bef.length = t.w.length) : ∀ (f pc : Nat) (reg : List Int) (out : List Slot) (did : List Nat) (said : List Bool), out.length = t.w.length → said.length = t.w.length → did.length ≤ pc →
    (goFrom t hv bef f pc reg out did said).ws.length = t.w.length ∧ (goFrom t hv bef f pc reg out did said).said.length = t.w.length := by
  intro f
  induction f with
  | zero => intro pc reg out did said h1 h2 _; exact ⟨h1, h2⟩
  | succ f ih =>
    intro pc reg out did said h1 h2 h3
    simp only [goFrom]
    split
    · split
      · exact ⟨hb, by simp⟩
      · have := lt_nextPc (t.c.getD pc Ins.zero) reg pc
        exact ih _ _ _ _ _ (by rw [(oneStep_len _ _ _ _ _).2]; exact h1) (by rw [nextSaid_len]; exact h2) (by rw [List.length_append]; simp only [List.length_singleton]; omega)
    · exact ⟨h1, h2⟩
theorem goCrs_len (t : Tx) (hv : List Slot) : (goCrs t hv).ws.length = t.w.length ∧ (goCrs t hv).said.length = t.w.length := by
  unfold goCrs goAt
  exact goFrom_len t hv _ (by simp [befOf]) _ _ _ _ _ _ (by simp [befOf]) (by simp) (Nat.le_refl _)

end Go.Proofs.YtlheloogmgmjnaaGreat

namespace Go.Proofs.YtlheloogmgmjnaaGreat
open Go.RowKit

structure GSt where
  pc : Nat
  reg : List Int
  out : List Slot
  said : List Bool

def GSt.ins (t : Tx) (s : GSt) : Ins := t.c.getD s.pc Ins.zero
def gstep (t : Tx) (hv : List Slot) (s : GSt) : GSt := ⟨nextPc (s.ins t) s.reg s.pc, (oneStep (s.ins t) t.r hv s.reg s.out).1, (oneStep (s.ins t) t.r hv s.reg s.out).2, nextSaid (s.ins t) s.said⟩
def gst (t : Tx) (hv : List Slot) : Nat → GSt
  | 0 => ⟨0, List.replicate 6 0, befOf t hv, List.replicate t.w.length false⟩
  | k + 1 => gstep t hv (gst t hv k)
/-- The instructions that are done ahead of the k-th. -/
def pcs (t : Tx) (hv : List Slot) (k : Nat) : List Nat := (List.range k).map fun i => (gst t hv i).pc
/-- Behind k instructions one more is done, and it is no Abort. -/
def Runs (t : Tx) (hv : List Slot) (k : Nat) : Prop := (gst t hv k).pc < t.c.length ∧ ((gst t hv k).ins t).op ≠ 11

theorem pcs_succ (t : Tx) (hv : List Slot) (k : Nat) : pcs t hv (k + 1) = pcs t hv k ++ [(gst t hv k).pc] := by simp [pcs, List.range_succ]
theorem pcs_length (t : Tx) (hv : List Slot) (k : Nat) : (pcs t hv k).length = k := by simp [pcs]
theorem pcs_getD (t : Tx) (hv : List Slot) {k i : Nat} (hi : i < k) : (pcs t hv k).getD i 0 = (gst t hv i).pc := by simp [pcs, List.getD, hi]

theorem pc_ge (t : Tx) (hv : List Slot) : ∀ k, k ≤ (gst t hv k).pc
  | 0 => Nat.zero_le _
  | k + 1 => by
    have h1 := pc_ge t hv k
    have h2 := lt_nextPc ((gst t hv k).ins t) (gst t hv k).reg (gst t hv k).pc
    show k + 1 ≤ nextPc _ _ _
    omega

theorem gst_len (t : Tx) (hv : List Slot) : ∀ k, (gst t hv k).reg.length = 6 ∧ (gst t hv k).out.length = t.w.length ∧ (gst t hv k).said.length = t.w.length
  | 0 => by simp [gst, befOf]
  | k + 1 => by
    have h := gst_len t hv k
    have h2 := oneStep_len ((gst t hv k).ins t) t.r hv (gst t hv k).reg (gst t hv k).out
    exact ⟨h2.1.trans h.1, h2.2.trans h.2.1, (nextSaid_len _ _).trans h.2.2⟩

/-- The course, seen from behind k instructions. -/
theorem goCrs_from (t : Tx) (hv : List Slot) : ∀ k, (∀ i, i < k → Runs t hv i) → goCrs t hv = goAt t hv (befOf t hv) (gst t hv k).pc (gst t hv k).reg (gst t hv k).out (pcs t hv k) (gst t hv k).said
  | 0, _ => by simp [goCrs, gst, pcs]
  | k + 1, h => by
    rw [goCrs_from t hv k (fun i hi => h i (by omega))]
    obtain ⟨h1, h2⟩ := h k (by omega)
    rw [goAt_next h1 h2, ← pcs_succ]
    rfl

theorem goCrs_end (t : Tx) (hv : List Slot) (k : Nat) (h : ∀ i, i < k → Runs t hv i) (he : ¬ (gst t hv k).pc < t.c.length) : goCrs t hv = ⟨pcs t hv k, false, (gst t hv k).reg.getD 0 0, (gst t hv k).out, (gst t hv k).said⟩ := by
  rw [goCrs_from t hv k h, goAt_end he]

theorem goCrs_abort (t : Tx) (hv : List Slot) (k : Nat) (h : ∀ i, i < k → Runs t hv i) (h1 : (gst t hv k).pc < t.c.length) (h2 : ((gst t hv k).ins t).op = 11) : goCrs t hv = ⟨pcs t hv (k + 1), true, (gst t hv k).reg.getD 0 0, befOf t hv, List.replicate t.w.length false⟩ := by
  rw [goCrs_from t hv k h, goAt_abort h1 h2, pcs_succ]

/-- Each course comes to its end. -/
theorem goCrs_ends (t : Tx) (hv : List Slot) : ∃ k, k ≤ t.c.length ∧ (∀ i, i < k → Runs t hv i) ∧ (¬ (gst t hv k).pc < t.c.length ∨ ((gst t hv k).pc < t.c.length ∧ ((gst t hv k).ins t).op = 11)) := by
  have key : ∀ n k, t.c.length ≤ k + n → k ≤ t.c.length → (∀ i, i < k → Runs t hv i) → ∃ k', k' ≤ t.c.length ∧ (∀ i, i < k' → Runs t hv i) ∧ (¬ (gst t hv k').pc < t.c.length ∨ ((gst t hv k').pc < t.c.length ∧ ((gst t hv k').ins t).op = 11)) := by
    intro n
    induction n with
    | zero =>
      intro k hk hk2 h
      refine ⟨k, hk2, h, Or.inl ?_⟩
      have := pc_ge t hv k
      omega
    | succ n ih =>
      intro k hk hk2 h
      by_cases h1 : (gst t hv k).pc < t.c.length
      · by_cases h2 : ((gst t hv k).ins t).op = 11
        · exact ⟨k, hk2, h, Or.inr ⟨h1, h2⟩⟩
        · have := pc_ge t hv k
          refine ih (k + 1) (by omega) (by omega) (fun i hi => ?_)
          by_cases hik : i < k
          · exact h i hik
          · obtain rfl : i = k := by omega
            exact ⟨h1, h2⟩
      · exact ⟨k, hk2, h, Or.inl h1⟩
  exact key t.c.length 0 (by omega) (Nat.zero_le _) (fun i hi => by omega)

/-- What is done: where it stands, and how much. -/
theorem goCrs_did (t : Tx) (hv : List Slot) : (goCrs t hv).did = pcs t hv (goCrs t hv).did.length ∧ (goCrs t hv).did.length ≤ t.c.length ∧ (∀ i, i < (goCrs t hv).did.length → (gst t hv i).pc < t.c.length) ∧ (∀ i, i + 1 < (goCrs t hv).did.length → Runs t hv i) := by
  obtain ⟨k, hk, hr, he | ⟨h1, h2⟩⟩ := goCrs_ends t hv
  · rw [goCrs_end t hv k hr he]
    simp only [pcs_length]
    exact ⟨trivial, hk, fun i hi => (hr i hi).1, fun i hi => hr i (by omega)⟩
  · rw [goCrs_abort t hv k hr h1 h2]
    simp only [pcs_length]
    have := pc_ge t hv k
    refine ⟨trivial, by omega, fun i hi => ?_, fun i hi => hr i (by omega)⟩
    by_cases hik : i < k
    · exact (hr i hik).1
    · obtain rfl : i = k := by omega
      exact h1

theorem goCrs_did_get (t : Tx) (hv : List Slot) {i : Nat} (hi : i < (goCrs t hv).did.length) : (goCrs t hv).did.getD i 0 = (gst t hv i).pc ∧ (gst t hv i).pc < t.c.length := by
  obtain ⟨h1, _, h3, _⟩ := goCrs_did t hv
  refine ⟨?_, h3 i hi⟩
  rw [h1]
  exact pcs_getD t hv hi

end Go.Proofs.YtlheloogmgmjnaaGreat
