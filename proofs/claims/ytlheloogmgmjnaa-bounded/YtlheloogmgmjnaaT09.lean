import Derived.Test.YtlheloogmgmjnaaT07
import Derived.Laws.AppendOwnNone
import Derived.Maps.AppendAt
import Derived.RegionTactic
import Derived.Test.YtlheloogmgmjnaaProg
import Derived.Test.YtlheloogmgmjnaaT05
import Derived.Deep.DeepMust
import Derived.Test.YtlheloogmgmjnaaT03
import Derived.Deep.RegionHeld
namespace Go.Proofs.Ytlheloogmgmjnaa
open Go.RowKit

theorem Own.below {w w' : World} {e : TypeId} {sz : Nat} {s : Sl} {xs : List Value} (h : Own w e sz s xs) (hb : Below w.heap.size w w') : Own w' e sz s xs := h.chg (Chg.of_below hb (fun _ => False)) (fun _ _ => id)

theorem ownsRow_sl {w : World} {base : Nat} {e : TypeId} {sz : Nat} {v : Value} {n : Nat} {xs : List Value} (h : w.ownsRow base e sz v n xs) : ∃ s : Sl, v = .slice s.a s.n s.c ∧ s.n = n ∧ v.ownBlock.toList = s.blk := by
  obtain ⟨_, ⟨rfl, hn⟩ | ⟨g, cap, cur, rfl, _⟩⟩ := h
  · exact ⟨⟨none, 0, 0⟩, rfl, hn.symm, rfl⟩
  · exact ⟨⟨some ⟨g, 0, none⟩, n, cap⟩, rfl, rfl, rfl⟩

/-- 'append(s, x...)': s owned; x whatever. -/
theorem run_append_sl {P : Program} (w : World) (t ty e : TypeId) (i : TypeInfo) (z : Value) (size bytes : Nat) (ht : P.underlying t = some (.slice e)) (hi : P.info? e = some i) (hz : i.zero = some z)
    (hsize : i.size = size) (hby : i.bytes = bytes) (hzs : z.cells.size = size) (hsz : 0 < size)
    (s : Sl) (xs : List Value) (hown : Own w e size s xs) (ao : Option Addr) (m c : Nat) (news : List Value) (hl : news.length = m * size) (hnil : ao = none → m = 0 ∧ c = 0)
    (hpos : ∀ ad, ao = some ad → ∀ j u, news[j]? = some u → w.cell? (ad.add j) = some u) (h1 : ∀ u ∈ news, u.oneCell' = true) (h63 : s.n + m ≤ maxLen) (hbytes : (s.n + m) * bytes ≤ 140737488355328) :
    ∃ (s' : Sl) (w' : World), (Builtin.append_ #[t, t] ty #[.slice s.a s.n s.c, .slice ao m c]).run P w = .ok (.slice s'.a s'.n s'.c) w' ∧ Own w' e size s' (xs ++ news) ∧ s'.n = s.n + m ∧ Chg w w' (fun k => k ∈ s.blk) ∧ (∀ k ∈ s'.blk, k ∈ s.blk ∨ k = w.heap.size) := by
  cases ao with
  | none =>
    obtain ⟨rfl, rfl⟩ := hnil rfl
    obtain rfl : news = [] := List.eq_nil_of_length_eq_zero (by simpa using hl)
    have hrun := run_append_owned_none (P := P) (w := w) 0 t ty e i size ht hi (.slice s.a s.n s.c) s.n xs hown
    exact ⟨s, w, hrun, by simpa using hown, rfl, Chg.refl _ _, fun k hk => Or.inl hk⟩
  | some ad =>
    obtain ⟨v', w', hr, h2, h3, _, h5⟩ := run_append_own_at (P := P) w 0 t ty e i z size bytes ht hi hz hsize hby hzs hsz (.slice s.a s.n s.c) s.n xs hown ad m c news hl (hpos ad rfl) h1 h63 hbytes (Nat.zero_le _)
    obtain ⟨s', hv, hn, hblk⟩ := ownsRow_sl h2
    have hsb : (Value.slice s.a s.n s.c).ownBlock.toList = s.blk := by
      rcases s with ⟨a, n, c⟩; cases a <;> rfl
    subst hv
    refine ⟨s', w', hr, ?_, hn, ?_, ?_⟩
    · unfold Own; rw [← hn] at h2; exact h2
    · refine (Chg.grown h3).mono (fun k _ hk => ?_)
      rw [← hsb, ← hk]; simp
    · intro k hk
      rw [← hblk] at hk
      rcases h5 with h5 | h5
      · left; rw [← hsb, ← h5]; exact hk
      · right; rw [h5] at hk; simpa using hk

theorem wp_append_sl {P : Program} {w : World} {o : Oper} {a : Act} {K : Act → World → Prop} {Q : Exit → Act → World → Prop} (sO x : Operand) (t : TypeId)
    (ho : o.op = .call { callee := .builtin .append, args := #[sO, x], argTypes := #[t, t] })
    (e : TypeId) (i : TypeInfo) (z : Value) (size bytes : Nat) (ht : P.underlying t = some (.slice e)) (hi : P.info? e = some i) (hz : i.zero = some z)
    (hsize : i.size = size) (hby : i.bytes = bytes) (hzs : z.cells.size = size) (hsz : 0 < size)
    (s : Sl) (xs : List Value) (hs : a.eval sO = .slice s.a s.n s.c) (hown : Own w e size s xs) (ao : Option Addr) (m c : Nat) (news : List Value) (hx : a.eval x = .slice ao m c) (hl : news.length = m * size) (hnil : ao = none → m = 0 ∧ c = 0)
    (hpos : ∀ ad, ao = some ad → ∀ j u, news[j]? = some u → w.cell? (ad.add j) = some u) (h1 : ∀ u ∈ news, u.oneCell' = true) (h63 : s.n + m ≤ maxLen) (hbytes : (s.n + m) * bytes ≤ 140737488355328)
    (h : ∀ (s' : Sl) (w' : World), Own w' e size s' (xs ++ news) → s'.n = s.n + m → Chg w w' (fun k => k ∈ s.blk) → (∀ k ∈ s'.blk, k ∈ s.blk ∨ k = w.heap.size) → K (a.put o.dst (.slice s'.a s'.n s'.c)) w') : o.wp P a w K Q := by
  obtain ⟨s', w', hr, h2, h3, h4, h5⟩ := run_append_sl (P := P) w t o.type e i z size bytes ht hi hz hsize hby hzs hsz s xs hown ao m c news hl hnil hpos h1 h63 hbytes
  unfold Oper.wp execOp
  simp only [ho, resolve, invoke, builtin, Sem.run_bind, Sem.run_pure, Result.andThen_ok, List.map_toArray, List.map_cons, List.map_nil, hs, hx, hr]
  exact h s' w' h2 h3 h4 h5

theorem wpList_append_sl {P : Program} {w : World} {ops : Array Oper} {rest : List Oper} {o : Oper} {a : Act} {Q : Exit → Act → World → Prop} (hgd : o.guard = none) (sO x : Operand) (t : TypeId)
    (ho : o.op = .call { callee := .builtin .append, args := #[sO, x], argTypes := #[t, t] })
    (e : TypeId) (i : TypeInfo) (z : Value) (size bytes : Nat) (ht : P.underlying t = some (.slice e)) (hi : P.info? e = some i) (hz : i.zero = some z)
    (hsize : i.size = size) (hby : i.bytes = bytes) (hzs : z.cells.size = size) (hsz : 0 < size)
    (s : Sl) (xs : List Value) (hs : a.eval sO = .slice s.a s.n s.c) (hown : Own w e size s xs) (ao : Option Addr) (m c : Nat) (news : List Value) (hx : a.eval x = .slice ao m c) (hl : news.length = m * size) (hnil : ao = none → m = 0 ∧ c = 0)
    (hpos : ∀ ad, ao = some ad → ∀ j u, news[j]? = some u → w.cell? (ad.add j) = some u) (h1 : ∀ u ∈ news, u.oneCell' = true) (h63 : s.n + m ≤ maxLen) (hbytes : (s.n + m) * bytes ≤ 140737488355328)
    (h : ∀ (s' : Sl) (w' : World), Own w' e size s' (xs ++ news) → s'.n = s.n + m → Chg w w' (fun k => k ∈ s.blk) → (∀ k ∈ s'.blk, k ∈ s.blk ∨ k = w.heap.size) → wpList P ops Q rest (a.put o.dst (.slice s'.a s'.n s'.c)) w') : wpList P ops Q (o :: rest) a w :=
  wpList_plain hgd fun _ hK => wp_append_sl sO x t ho e i z size bytes ht hi hz hsize hby hzs hsz s xs hs hown ao m c news hx hl hnil hpos h1 h63 hbytes fun s' w' h2 h3 h4 h5 => hK _ _ (h s' w' h2 h3 h4 h5)

theorem step_append_sl {P : Program} {w : World} {ops : Array Oper} {o : Oper} {a : Act} {K : Act → World → Prop} {Q : Exit → Act → World → Prop} {E : Prop} (hgd : o.guard = none) (sO x : Operand) (t : TypeId)
    (ho : o.op = .call { callee := .builtin .append, args := #[sO, x], argTypes := #[t, t] })
    (e : TypeId) (i : TypeInfo) (z : Value) (size bytes : Nat) (ht : P.underlying t = some (.slice e)) (hi : P.info? e = some i) (hz : i.zero = some z)
    (hsize : i.size = size) (hby : i.bytes = bytes) (hzs : z.cells.size = size) (hsz : 0 < size)
    (s : Sl) (xs : List Value) (hs : a.eval sO = .slice s.a s.n s.c) (hown : Own w e size s xs) (ao : Option Addr) (m c : Nat) (news : List Value) (hx : a.eval x = .slice ao m c) (hl : news.length = m * size) (hnil : ao = none → m = 0 ∧ c = 0)
    (hpos : ∀ ad, ao = some ad → ∀ j u, news[j]? = some u → w.cell? (ad.add j) = some u) (h1 : ∀ u ∈ news, u.oneCell' = true) (h63 : s.n + m ≤ maxLen) (hbytes : (s.n + m) * bytes ≤ 140737488355328)
    (h : ∀ (s' : Sl) (w' : World), Own w' e size s' (xs ++ news) → s'.n = s.n + m → Chg w w' (fun k => k ∈ s.blk) → (∀ k ∈ s'.blk, k ∈ s.blk ∨ k = w.heap.size) → K (a.put o.dst (.slice s'.a s'.n s'.c)) w') :
    if Region.wanted o (yielded ops a.tmps) = true then Oper.wp P o a w K Q else E := by
  have hw : Region.wanted o (yielded ops a.tmps) = true := by simp [Region.wanted, hgd]
  rw [if_pos hw]
  exact wp_append_sl sO x t ho e i z size bytes ht hi hz hsize hby hzs hsz s xs hs hown ao m c news hx hl hnil hpos h1 h63 hbytes h

end Go.Proofs.Ytlheloogmgmjnaa

namespace Go.Proofs.Ytlheloogmgmjnaa
open Go.RowKit

/-- A transaction that came in: its lists; has it ended; its result. -/
structure PRec where
  h : TH
  ended : Bool
  ab : Bool
  out : Int

def PRec.row (r : PRec) : List Value := [.slice r.h.r.a r.h.r.n r.h.r.c, .slice r.h.w.a r.h.w.n r.h.w.c, .slice r.h.c.a r.h.c.n r.h.c.c, .bool r.ended, .bool r.ab, .int .i64 r.out]

/-- The program's store ahead of all steps: where it lies. -/
structure PM where
  b : Nat
  room : Nat
  taken : Nat
  recs : List PRec
  rcS : Sl
  ends : List Nat
  enS : Sl
  mbs : List Nat
  mkS : Sl
  doS : Sl

def PM.row (M : PM) : List Value := [.int .i64 M.room, .int .i64 M.taken, .slice M.rcS.a M.rcS.n M.rcS.c, .slice M.enS.a M.enS.n M.enS.c, .slice M.mkS.a M.mkS.n M.mkS.c, .slice M.doS.a M.doS.n M.doS.c, .int .i64 0]
def mkCells (l : List Nat) : List Value := l.flatMap fun g => [.int .i64 0, .map (some g)]
def PM.mut (M : PM) : List Nat := M.b :: (M.rcS.blk ++ M.enS.blk)
def PM.imm (M : PM) : List Nat := M.mkS.blk ++ M.mbs
def PM.foot (M : PM) : List Nat := M.mut ++ M.imm
def PM.closed (M : PM) : Nat := M.ends.getD (M.ends.length - 1) 0

structure PAt (w : World) (M : PM) : Prop where
  row : RowAt w M.b 64 M.row
  rc : Own w 102 6 M.rcS (M.recs.flatMap PRec.row)
  rcn : M.rcS.n = M.recs.length
  en : Own w 3 1 M.enS (ints (nats M.ends))
  enn : M.enS.n = M.ends.length
  mkO : Own w 90 2 M.mkS (mkCells M.mbs)
  mkn : M.mkS.n = M.mbs.length
  mk1 : 1 ≤ M.mbs.length
  mk8 : M.mbs.length ≤ 8
  maps : ∀ g ∈ M.mbs, w.heap[g]? = some (.map #[] 0)
  nodup : M.mut.Nodup
  apart : ∀ k ∈ M.imm, k ∉ M.mut
  fresh : ∀ r ∈ M.recs, r.ended = false
  txns : M.recs.length ≤ 150
  room500 : M.room ≤ 500
  taken500 : M.taken ≤ M.room
  ends1 : M.ends.length ≤ M.recs.length
  ends2 : M.ends.length ≤ M.closed
  endsle : ∀ e ∈ M.ends, 1 ≤ e ∧ e ≤ M.recs.length

theorem blk_of_map {w : World} {g : Nat} {o : Obj} (h : w.heap[g]? = some o) : g < w.heap.size := by
  by_cases hb : g < w.heap.size
  · exact hb
  · rw [Array.getElem?_eq_none (by omega)] at h; cases h

theorem PAt.chg {w w' : World} {D : Nat → Prop} {M : PM} (h : PAt w M) (hc : Chg w w' D) (hd : ∀ k ∈ M.foot, ¬ D k) : PAt w' M :=
  { h with
    row := h.row.chg hc (hd _ (by simp [PM.foot, PM.mut]))
    rc := h.rc.chg hc (fun k hk => hd k (by simp [PM.foot, PM.mut, hk]))
    en := h.en.chg hc (fun k hk => hd k (by simp [PM.foot, PM.mut, hk]))
    mkO := h.mkO.chg hc (fun k hk => hd k (by simp [PM.foot, PM.imm, hk]))
    maps := fun g hg => by rw [hc.block g (blk_of_map (h.maps g hg)) (hd g (by simp [PM.foot, PM.imm, hg]))]; exact h.maps g hg }

theorem PAt.below {w w' : World} {M : PM} (h : PAt w M) (hb : Below w.heap.size w w') : PAt w' M := h.chg (Chg.of_below hb (fun _ => False)) (fun _ _ => id)
theorem PAt.drewN {w : World} {M : PM} (h : PAt w M) (n : Nat) : PAt (w.drewN n) M := h.below (below_drewN (Below.refl _ _) n)

end Go.Proofs.Ytlheloogmgmjnaa

namespace Go.Proofs.Ytlheloogmgmjnaa
open Go.RowKit

structure Say where
  said : Bool
  v : Int
  th : Bool
def Say.row (s : Say) : List Value := [.bool s.said, .int .i64 s.v, .bool s.th]
def sayCells (l : List Say) : List Value := l.flatMap Say.row

structure Mac where
  h : TH
  next : Nat
  regs : List Int
  says : List Say
  ab : Bool
def Mac.row (m : Mac) : List Value :=
  .slice m.h.r.a m.h.r.n m.h.r.c :: .slice m.h.w.a m.h.w.n m.h.w.c :: .slice m.h.c.a m.h.c.n m.h.c.c :: .int .i64 m.next :: (ints m.regs ++ (sayCells m.says ++ [.bool m.ab]))

theorem sayCells_length (l : List Say) : (sayCells l).length = 3 * l.length := by
  induction l with
  | nil => rfl
  | cons s l ih => simp [sayCells, Say.row] at *; omega
theorem sayCells_get (l : List Say) : ∀ (i : Nat), i < l.length → ∃ s, l[i]? = some s ∧ (sayCells l)[i * 3]? = some (.bool s.said) ∧ (sayCells l)[i * 3 + 1]? = some (.int .i64 s.v) ∧ (sayCells l)[i * 3 + 2]? = some (.bool s.th) := by
  induction l with
  | nil => intro i hi; simp at hi
  | cons s l ih =>
    intro i hi
    have e : sayCells (s :: l) = .bool s.said :: .int .i64 s.v :: .bool s.th :: sayCells l := by simp [sayCells, Say.row]
    cases i with
    | zero => exact ⟨s, rfl, by simp [e]⟩
    | succ i =>
      obtain ⟨t, h1, h2⟩ := ih i (by simpa using hi)
      refine ⟨t, by simpa using h1, ?_⟩
      rw [e, show (i + 1) * 3 = i * 3 + 1 + 1 + 1 by omega]
      simpa using h2
theorem sayCells_set (l : List Say) (s : Say) : ∀ (i : Nat), i < l.length → (((sayCells l).set (i * 3) (.bool s.said)).set (i * 3 + 1) (.int .i64 s.v)).set (i * 3 + 2) (.bool s.th) = sayCells (l.set i s) := by
  induction l with
  | nil => intro i hi; simp at hi
  | cons x l ih =>
    intro i hi
    have e : ∀ (y : Say) (l : List Say), sayCells (y :: l) = .bool y.said :: .int .i64 y.v :: .bool y.th :: sayCells l := by intro y l; simp [sayCells, Say.row]
    cases i with
    | zero => simp [e]
    | succ i =>
      have := ih i (by simpa using hi)
      rw [e, List.set_cons_succ, e, show (i + 1) * 3 = i * 3 + 1 + 1 + 1 by omega]
      simpa using this

structure MacAt (w : World) (g : Nat) (T : TypeId) (pre suf : List Value) (m : Mac) : Prop where
  row : RowAt w g T (pre ++ (m.row ++ suf))
  r6 : m.regs.length = 6
  s6 : m.says.length = 6

theorem mid_get {pre row suf : List Value} {i : Nat} {v : Value} (h : row[i]? = some v) : (pre ++ (row ++ suf))[pre.length + i]? = some v := by
  have hi : i < row.length := by
    by_cases hb : i < row.length
    · exact hb
    · rw [List.getElem?_eq_none (by omega)] at h; cases h
  rw [List.getElem?_append_right (by omega), Nat.add_sub_cancel_left, List.getElem?_append_left hi]
  exact h
theorem mid_set {pre row suf : List Value} {i : Nat} (v : Value) (hi : i < row.length) : (pre ++ (row ++ suf)).set (pre.length + i) v = pre ++ (row.set i v ++ suf) := by
  rw [List.set_append_right _ _ (by omega), Nat.add_sub_cancel_left, List.set_append_left _ _ hi]

theorem Mac.row_length {m : Mac} (hr : m.regs.length = 6) (hs : m.says.length = 6) : m.row.length = 29 := by
  simp [Mac.row, ints, sayCells_length, hr, hs]
theorem Mac.row_reg {m : Mac} (hr : m.regs.length = 6) {i : Nat} (hi : i < 6) : m.row[4 + i]? = some (.int .i64 (m.regs.getD i 0)) := by
  rw [show 4 + i = i + 1 + 1 + 1 + 1 by omega]
  simp only [Mac.row, List.getElem?_cons_succ]
  rw [List.getElem?_append_left (by simp [ints, hr]; omega)]
  exact ints_getD _ _ (by omega)
theorem Mac.row_set_reg {m : Mac} (hr : m.regs.length = 6) {i : Nat} (hi : i < 6) (y : Int) : m.row.set (4 + i) (.int .i64 y) = { m with regs := m.regs.set i y }.row := by
  rw [show 4 + i = i + 1 + 1 + 1 + 1 by omega]
  simp only [Mac.row, List.set_cons_succ]
  rw [List.set_append_left _ _ (by simp [ints, hr]; omega), ints_set]
theorem Mac.row_say {m : Mac} (hr : m.regs.length = 6) (hs : m.says.length = 6) {i : Nat} (hi : i < 6) : ∃ s, m.says[i]? = some s ∧ m.row[10 + i * 3]? = some (.bool s.said) ∧ m.row[10 + i * 3 + 1]? = some (.int .i64 s.v) ∧ m.row[10 + i * 3 + 2]? = some (.bool s.th) := by
  obtain ⟨s, h0, h1, h2, h3⟩ := sayCells_get m.says i (by omega)
  have key : ∀ (j : Nat) (v : Value), (sayCells m.says)[j]? = some v → m.row[10 + j]? = some v := by
    intro j v h
    have hj : j < (sayCells m.says).length := by
      by_cases hb : j < (sayCells m.says).length
      · exact hb
      · rw [List.getElem?_eq_none (by omega)] at h; cases h
    rw [show 10 + j = (6 + j) + 1 + 1 + 1 + 1 by omega]
    simp only [Mac.row, List.getElem?_cons_succ]
    rw [List.getElem?_append_right (by simp [ints, hr]), show 6 + j - (ints m.regs).length = j by simp [ints, hr], List.getElem?_append_left hj]
    exact h
  exact ⟨s, h0, key _ _ h1, by rw [Nat.add_assoc]; exact key _ _ h2, by rw [Nat.add_assoc]; exact key _ _ h3⟩
theorem Mac.row_set_say {m : Mac} (hr : m.regs.length = 6) (hs : m.says.length = 6) {i : Nat} (hi : i < 6) (s : Say) :
    ((m.row.set (10 + i * 3) (.bool s.said)).set (10 + i * 3 + 1) (.int .i64 s.v)).set (10 + i * 3 + 2) (.bool s.th) = { m with says := m.says.set i s }.row := by
  have hl := sayCells_length m.says
  have key : ∀ (L : List Value) (j : Nat) (v : Value), L.length = 18 → j < 18 →
      (Value.slice m.h.r.a m.h.r.n m.h.r.c :: .slice m.h.w.a m.h.w.n m.h.w.c :: .slice m.h.c.a m.h.c.n m.h.c.c :: .int .i64 m.next :: (ints m.regs ++ (L ++ [.bool m.ab]))).set (10 + j) v =
      (Value.slice m.h.r.a m.h.r.n m.h.r.c :: .slice m.h.w.a m.h.w.n m.h.w.c :: .slice m.h.c.a m.h.c.n m.h.c.c :: .int .i64 m.next :: (ints m.regs ++ (L.set j v ++ [.bool m.ab]))) := by
    intro L j v hL hj
    rw [show 10 + j = (6 + j) + 1 + 1 + 1 + 1 by omega]
    simp only [List.set_cons_succ]
    rw [List.set_append_right _ _ (by simp [ints, hr]), show 6 + j - (ints m.regs).length = j by simp [ints, hr], List.set_append_left _ _ (by omega)]
  simp only [Mac.row]
  rw [← sayCells_set m.says s i (by omega)]
  rw [key _ _ _ (by omega) (by omega), Nat.add_assoc, key _ _ _ (by simp; omega) (by omega), Nat.add_assoc, key _ _ _ (by simp; omega) (by omega)]
theorem Mac.row_ab {m : Mac} (hr : m.regs.length = 6) (hs : m.says.length = 6) : m.row[28]? = some (.bool m.ab) := by
  have hl := sayCells_length m.says
  rw [show 28 = 24 + 1 + 1 + 1 + 1 by omega]
  simp only [Mac.row, List.getElem?_cons_succ]
  rw [List.getElem?_append_right (by simp [ints, hr]), show 24 - (ints m.regs).length = 18 by simp [ints, hr], List.getElem?_append_right (by omega), show 18 - (sayCells m.says).length = 0 by omega]
  rfl
theorem Mac.row_set_ab {m : Mac} (hr : m.regs.length = 6) (hs : m.says.length = 6) (b : Bool) : m.row.set 28 (.bool b) = { m with ab := b }.row := by
  have hl := sayCells_length m.says
  rw [show 28 = 24 + 1 + 1 + 1 + 1 by omega]
  simp only [Mac.row, List.set_cons_succ]
  rw [List.set_append_right _ _ (by simp [ints, hr]), show 24 - (ints m.regs).length = 18 by simp [ints, hr], List.set_append_right _ _ (by omega), show 18 - (sayCells m.says).length = 0 by omega]
  rfl
theorem Mac.row_set_next {m : Mac} (n : Nat) : m.row.set 3 (.int .i64 n) = { m with next := n }.row := by simp [Mac.row]

theorem MacAt.cell {w : World} {g : Nat} {T : TypeId} {pre suf : List Value} {m : Mac} (h : MacAt w g T pre suf m) {i : Nat} {v : Value} (hi : m.row[i]? = some v) : w.cell? ⟨g, pre.length + i, none⟩ = some v := h.row.cell' (mid_get hi)
theorem MacAt.chg {w w' : World} {D : Nat → Prop} {g : Nat} {T : TypeId} {pre suf : List Value} {m : Mac} (h : MacAt w g T pre suf m) (hc : Chg w w' D) (hg : ¬ D g) : MacAt w' g T pre suf m := ⟨h.row.chg hc hg, h.r6, h.s6⟩
theorem MacAt.set1 {w : World} {g : Nat} {T : TypeId} {pre suf : List Value} {m m' : Mac} (h : MacAt w g T pre suf m) {i : Nat} {v : Value} (hi : i < 29) (e : m.row.set i v = m'.row) (hr : m'.regs.length = 6) (hs : m'.says.length = 6) : MacAt (w.setCell ⟨g, pre.length + i, none⟩ v) g T pre suf m' := by
  refine ⟨?_, hr, hs⟩
  have := h.row.set (pre.length + i) v
  rw [mid_set _ (by rw [Mac.row_length h.r6 h.s6]; exact hi), e] at this
  exact this
theorem MacAt.set3 {w : World} {g : Nat} {T : TypeId} {pre suf : List Value} {m : Mac} (h : MacAt w g T pre suf m) {i : Nat} (hi : i < 6) (s : Say) :
    MacAt (((w.setCell ⟨g, pre.length + (10 + i * 3), none⟩ (.bool s.said)).setCell ⟨g, pre.length + (10 + i * 3 + 1), none⟩ (.int .i64 s.v)).setCell ⟨g, pre.length + (10 + i * 3 + 2), none⟩ (.bool s.th)) g T pre suf { m with says := m.says.set i s } := by
  refine ⟨?_, h.r6, by simp [h.s6]⟩
  have := ((h.row.set (pre.length + (10 + i * 3)) (.bool s.said)).set (pre.length + (10 + i * 3 + 1)) (.int .i64 s.v)).set (pre.length + (10 + i * 3 + 2)) (.bool s.th)
  have hl := Mac.row_length h.r6 h.s6
  rw [mid_set _ (by omega), mid_set _ (by simp; omega), mid_set _ (by simp; omega), Mac.row_set_say h.r6 h.s6 hi s] at this
  exact this
theorem MacAt.below' {w w' : World} {g : Nat} {T : TypeId} {pre suf : List Value} {m : Mac} (h : MacAt w g T pre suf m) (hb : Below w.heap.size w w') : MacAt w' g T pre suf m := ⟨h.row.below' hb, h.r6, h.s6⟩

end Go.Proofs.Ytlheloogmgmjnaa

namespace Go.Proofs.Ytlheloogmgmjnaa
open Go.RowKit

theorem IntsAt.src' {w : World} {ao : Option Addr} {xs : List Int} (h : IntsAt w ao xs) : ∀ ad, ao = some ad → ∀ j u, (ints xs)[j]? = some u → w.cell? (ad.add j) = some u := by
  intro ad ha j u hu
  have hj := (ints_get xs j u hu).1
  obtain ⟨ad', ha', hc⟩ := h.src (by simp [ints]; omega)
  rw [ha] at ha'; cases ha'
  exact hc j u hu
theorem InsAt.src' {w : World} {ao : Option Addr} {xs : List Ins} (h : InsAt w ao xs) : ∀ ad, ao = some ad → ∀ j u, (insCells xs)[j]? = some u → w.cell? (ad.add j) = some u := by
  intro ad ha j u hu
  have hj : j < (insCells xs).length := (List.getElem?_eq_some_iff.1 hu).1
  obtain ⟨ad', ha', hc⟩ := h.src (by omega)
  rw [ha] at ha'; cases ha'
  exact hc j u hu

theorem Own.instrs {w : World} {e : TypeId} {s : Sl} {xs : List Ins} (h : Own w e 4 s (insCells xs)) : InsAt w s.a xs := by
  by_cases h0 : xs = []
  · exact Or.inl h0
  · have hp : 0 < xs.length := List.length_pos_iff.2 h0
    obtain ⟨g, ha, _⟩ := h.cell (insCells_get xs 0 hp).1
    refine Or.inr ⟨g, 0, ha, fun i hi => ?_⟩
    obtain ⟨i0, i1, i2, i3⟩ := insCells_get xs i hi
    obtain ⟨g0, a0, c0⟩ := h.cell i0
    obtain ⟨g1, a1, c1⟩ := h.cell i1
    obtain ⟨g2, a2, c2⟩ := h.cell i2
    obtain ⟨g3, a3, c3⟩ := h.cell i3
    rw [ha] at a0 a1 a2 a3; simp at a0 a1 a2 a3; subst a0 a1 a2 a3
    rw [Nat.zero_add]; exact ⟨c0, c1, c2, c3⟩

/-- The lists of a header that are nil have no room. -/
def TH.nilOk (h : TH) : Prop := (h.r.a = none → h.r.n = 0 ∧ h.r.c = 0) ∧ (h.w.a = none → h.w.n = 0 ∧ h.w.c = 0) ∧ (h.c.a = none → h.c.n = 0 ∧ h.c.c = 0)

/-- A transaction of lists of its own. -/
structure OwnTx (w : World) (h : TH) (t : Tx) : Prop where
  rO : Own w 3 1 h.r (ints t.r)
  wO : Own w 3 1 h.w (ints t.w)
  cO : Own w 51 4 h.c (insCells t.c)
  rn : h.r.n = t.r.length
  wn : h.w.n = t.w.length
  cn : h.c.n = t.c.length

theorem Own.cap {w : World} {e : TypeId} {sz : Nat} {s : Sl} {xs : List Value} (h : Own w e sz s xs) : s.n ≤ s.c := by
  rcases h.row with ⟨rfl, _⟩ | ⟨_, _, _, _, hn, _⟩
  · exact Nat.le_refl _
  · exact hn
theorem Own.nilOk {w : World} {e : TypeId} {sz : Nat} {s : Sl} {xs : List Value} (h : Own w e sz s xs) : s.a = none → s.n = 0 ∧ s.c = 0 := by
  intro ha
  rcases h.row with ⟨rfl, _⟩ | ⟨g, _, hg, _⟩
  · exact ⟨rfl, rfl⟩
  · rw [ha] at hg; cases hg

theorem OwnTx.at {w w0 : World} {h h0 : TH} {t : Tx} (o : OwnTx w h t) (x : TxAt w0 h0 t) : TxAt w h t :=
  ⟨o.rn, o.wn, o.cn, o.rO.cap, o.wO.cap, o.cO.cap, by rw [o.rn, ← x.rl]; exact x.rb, by rw [o.wn, ← x.wl]; exact x.wb, by rw [o.cn, ← x.cl]; exact x.cb, o.rO.ints, o.wO.ints, o.cO.instrs⟩

def TH.blks (h : TH) : List Nat := h.r.blk ++ (h.w.blk ++ h.c.blk)

end Go.Proofs.Ytlheloogmgmjnaa

namespace Go.Proofs.Ytlheloogmgmjnaa
open Go.RowKit

set_option maxHeartbeats 1000000 in
set_option maxRecDepth 100000 in
theorem icopyI_any (ra : Option Addr) (rc : Nat) (R : List Int) (w : World) (ri : IntsAt w ra R) (hb : R.length * 8 ≤ 140737488351232) (hn : ra = none → R.length = 0 ∧ rc = 0) :
    Calls Try.prog 84 #[.slice ra R.length rc] w fun e w' => ∃ s : Sl, e = .returned (.slice s.a s.n s.c) ∧ Own w' 3 1 s (ints R) ∧ s.n = R.length ∧ (∀ k ∈ s.blk, w.heap.size ≤ k) ∧ Below w.heap.size w w' := by
  obtain ⟨i0, hi, hz0, hz1, hz2⟩ := info_parts Try.info3
  have IR := hide ri.src'
  have N1 := hide hn
  have M1 := hide (show Sl.nil.n + R.length ≤ maxLen by simp [Sl.nil]; unfold maxLen; omega)
  have Q1 := hide (show (Sl.nil.n + R.length) * 8 ≤ 140737488355328 by simp [Sl.nil]; omega)
  clear ri hn
  go_enter Try.func84, Try.ntmps84
  go_wp2_with (first
    | (at_builtin; refine wpList_append_sl rfl (.const (.slice none 0 0)) (.tmp 3) 22 rfl 3 i0 (.int .i64 0) 1 8 Try.underlying22 hi hz0 hz1 hz2 rfl (by decide) Sl.nil [] rfl (Own.nil _ _ _) ra R.length rc (ints R) rfl (by simp [ints]) N1.out IR.out (ints_oneCell' R) M1.out Q1.out ?_; intro s1 w1 ow1 sn1 ch1 bl1; have OW := hide ow1; have SN := hide sn1; have CH := hide ch1; have BL := hide bl1; clear ow1 sn1 ch1 bl1))
  go_ret
  refine ⟨s1, rfl, by have := OW.out; simpa using this, by rw [SN.out]; simp [Sl.nil], fun k hk => ?_, CH.out.below (by simp [Sl.blk, Sl.nil])⟩
  rcases BL.out k hk with h | h
  · simp [Sl.blk, Sl.nil] at h
  · rw [h]; exact Nat.le_refl _

set_option maxHeartbeats 1000000 in
set_option maxRecDepth 100000 in
theorem icopyX_any (ca : Option Addr) (cc : Nat) (C : List Ins) (w : World) (ci : InsAt w ca C) (hb : C.length * 32 ≤ 140737488351232) (hn : ca = none → C.length = 0 ∧ cc = 0) :
    Calls Try.prog 85 #[.slice ca C.length cc] w fun e w' => ∃ s : Sl, e = .returned (.slice s.a s.n s.c) ∧ Own w' 51 4 s (insCells C) ∧ s.n = C.length ∧ (∀ k ∈ s.blk, w.heap.size ≤ k) ∧ Below w.heap.size w w' := by
  obtain ⟨j0, gi, gz0, gz1, gz2⟩ := info_parts Try.info51
  have IC := hide ci.src'
  have N3 := hide hn
  have M3 := hide (show Sl.nil.n + C.length ≤ maxLen by simp [Sl.nil]; unfold maxLen; omega)
  have Q3 := hide (show (Sl.nil.n + C.length) * 32 ≤ 140737488355328 by simp [Sl.nil]; omega)
  clear ci hn
  go_enter Try.func85, Try.ntmps85
  go_wp2_with (first
    | (at_builtin; refine wpList_append_sl rfl (.const (.slice none 0 0)) (.tmp 3) 23 rfl 51 j0 (.agg #[.int .i64 0, .int .i64 0, .int .i64 0, .int .i64 0]) 4 32 Try.underlying23 gi gz0 gz1 gz2 rfl (by decide) Sl.nil [] rfl (Own.nil _ _ _) ca C.length cc (insCells C) rfl (by simp [insCells_length]) N3.out IC.out (insCells_oneCell C) M3.out Q3.out ?_; intro s1 w1 ow1 sn1 ch1 bl1; have OW := hide ow1; have SN := hide sn1; have CH := hide ch1; have BL := hide bl1; clear ow1 sn1 ch1 bl1))
  go_ret
  refine ⟨s1, rfl, by have := OW.out; simpa using this, by rw [SN.out]; simp [Sl.nil], fun k hk => ?_, CH.out.below (by simp [Sl.blk, Sl.nil])⟩
  rcases BL.out k hk with h | h
  · simp [Sl.blk, Sl.nil] at h
  · rw [h]; exact Nat.le_refl _

def zeroTxn : List Value := [.slice none 0 0, .slice none 0 0, .slice none 0 0]

theorem thRow_oneCell (a b c : Sl) : ∀ v ∈ ([.slice a.a a.n a.c, .slice b.a b.n b.c, .slice c.a c.n c.c] : List Value), v.oneCell' = true := by
  intro v hv
  simp only [List.mem_cons, List.not_mem_nil, or_false] at hv
  rcases hv with h | h | h <;> subst h <;> rfl

/-- The end of copyOf. -/
theorem copy_end {w W w3 w4 : World} {g : Nat} {R Ws : List Int} {C : List Ins} {s1 s2 s3 : Sl} (hg : w.heap.size ≤ g) (hg2 : g < W.heap.size) (hW : Below w.heap.size w W) (h3 : Below W.heap.size W w3)
    (o1 : Own w3 3 1 s1 (ints R)) (n1 : s1.n = R.length) (b1 : ∀ k ∈ s1.blk, W.heap.size ≤ k) (o2 : Own w3 3 1 s2 (ints Ws)) (n2 : s2.n = Ws.length) (b2 : ∀ k ∈ s2.blk, W.heap.size ≤ k)
    (o3 : Own w3 51 4 s3 (insCells C)) (n3 : s3.n = C.length) (b3 : ∀ k ∈ s3.blk, W.heap.size ≤ k) (hc : Chg w3 w4 (· = g)) :
    OwnTx w4 ⟨s1, s2, s3⟩ ⟨R, Ws, C⟩ ∧ (∀ k ∈ TH.blks ⟨s1, s2, s3⟩, w.heap.size ≤ k) ∧ Below w.heap.size w w4 := by
  have hs := hW.size
  refine ⟨⟨o1.chg hc (fun k hk => by have := b1 k hk; show ¬ k = g; omega), o2.chg hc (fun k hk => by have := b2 k hk; show ¬ k = g; omega), o3.chg hc (fun k hk => by have := b3 k hk; show ¬ k = g; omega), n1, n2, n3⟩, ?_, ?_⟩
  · intro k hk
    simp only [TH.blks, List.mem_append] at hk
    rcases hk with h | h | h
    · have := b1 k h; omega
    · have := b2 k h; omega
    · have := b3 k h; omega
  · exact (below_on hW h3).trans (hc.belowB (fun k hk => by omega) (below_on hW h3).size)

set_option maxHeartbeats 4000000 in
set_option maxRecDepth 100000 in
theorem icopyOf_any (h : TH) (t : Tx) (w : World) (hx : TxAt w h t) (hn : h.nilOk) :
    Calls Try.prog 68 #[.agg h.cells] w fun e w' => ∃ h' : TH, e = .returned (.agg h'.cells) ∧ OwnTx w' h' t ∧ (∀ k ∈ h'.blks, w.heap.size ≤ k) ∧ Below w.heap.size w w' := by
  obtain ⟨⟨ra, rn, rc⟩, ⟨wa, wn, wc⟩, ⟨ca, cn, cc⟩⟩ := h
  obtain ⟨R, Ws, C⟩ := t
  obtain ⟨rl, wl, cl, _, _, _, b4, b5, b6, ri, wi, ci⟩ := hx
  obtain ⟨n1, n2, n3⟩ := hn
  simp only at rl wl cl b4 b5 b6 ri wi ci n1 n2 n3
  subst rl wl cl
  have C1 := hide (fun wx (hb : Below w.heap.size w wx) => icopyI_any ra rc R wx (ri.below hb) (by omega) n1)
  have C2 := hide (fun wx (hb : Below w.heap.size w wx) => icopyI_any wa wc Ws wx (wi.below hb) (by omega) n2)
  have C3 := hide (fun wx (hb : Below w.heap.size w wx) => icopyX_any ca cc C wx (ci.below hb) (by omega) n3)
  clear ri wi ci n1 n2 n3 b4 b5 b6
  show Calls Try.prog 68 #[.agg #[.slice ra R.length rc, .slice wa Ws.length wc, .slice ca C.length cc]] w _
  have A0 := hide ((rowAt_alloc w [.slice ra R.length rc, .slice wa Ws.length wc, .slice ca C.length cc] 25).alloc (Obj.cells #[.slice none 0 0, .slice none 0 0, .slice none 0 0] 25))
  have Z0 := hide (rowAt_alloc (w.alloc (Obj.cells #[.slice ra R.length rc, .slice wa Ws.length wc, .slice ca C.length cc] 25)) zeroTxn 25)
  have B0 := hide (below_on (below_alloc1 w (Obj.cells #[.slice ra R.length rc, .slice wa Ws.length wc, .slice ca C.length cc] 25)) (below_alloc1 _ (Obj.cells #[.slice none 0 0, .slice none 0 0, .slice none 0 0] 25)))
  simp only [size_alloc_eq] at Z0
  go_enter Try.func68, Try.ntmps68
  go_wp2
  have hW2 : Hid (w.heap.size + 1 < ((w.alloc (Obj.cells #[.slice ra R.length rc, .slice wa Ws.length wc, .slice ca C.length cc] 25)).alloc (Obj.cells #[.slice none 0 0, .slice none 0 0, .slice none 0 0] 25)).heap.size) := hide (by simp)
  change Hid (RowAt ((w.alloc (Obj.cells #[.slice ra R.length rc, .slice wa Ws.length wc, .slice ca C.length cc] 25)).alloc (Obj.cells #[.slice none 0 0, .slice none 0 0, .slice none 0 0] 25)) (w.heap.size + 1) 25 zeroTxn) at Z0
  generalize (w.alloc (Obj.cells #[.slice ra R.length rc, .slice wa Ws.length wc, .slice ca C.length cc] 25)).alloc (Obj.cells #[.slice none 0 0, .slice none 0 0, .slice none 0 0] 25) = W at *
  have KL : Hid (∀ w', Below W.heap.size W w' → (w'.cell? ⟨w.heap.size, 0, none⟩ = some (.slice ra R.length rc) ∧ w'.cell? ⟨w.heap.size, 1, none⟩ = some (.slice wa Ws.length wc) ∧ w'.cell? ⟨w.heap.size, 2, none⟩ = some (.slice ca C.length cc))) := hide (fun w' hB =>
    ⟨(A0.out.below' hB).cell' (i := 0) rfl, (A0.out.below' hB).cell' (i := 1) rfl, (A0.out.below' hB).cell' (i := 2) rfl⟩)
  refine wp_region_held_drew (S := (fun w' => w'.cell? ⟨w.heap.size, 0, none⟩ = some (.slice ra R.length rc) ∧ w'.cell? ⟨w.heap.size, 1, none⟩ = some (.slice wa Ws.length wc) ∧ w'.cell? ⟨w.heap.size, 2, none⟩ = some (.slice ca C.length cc))) (by kernel_rfl) (KL.out _ (Below.refl _ _).drew) (fun hHeld => ?_)
  have D0 : Hid (Below W.heap.size W W.drew) := hide (Below.refl _ _).drew
  refine wpAnyH_take (i := 0) (v := ?_) rfl (by kernel_rfl) (by kernel_rfl) (by kernel_rfl) (fun _ _ _ h => h) (Or.inl ⟨by rfl, ?_⟩) (by assumption) ?_
  rotate_left
  · intro w hSw; (try dsimp only at hSw); (go_simp <;> with_reducible rfl)
  try simp only [List.getElem_toArray, List.getElem_cons_zero, Act.put, List.setIfInBounds_toArray, List.set_cons_zero, List.set_cons_succ]
  refine wpAnyH_take (i := 1) (v := ?_) rfl (by kernel_rfl) (by kernel_rfl) (by kernel_rfl) (fun _ _ _ h => h) (Or.inl ⟨by rfl, ?_⟩) (by assumption) ?_
  rotate_left
  · intro w hSw; (try dsimp only at hSw); (go_simp <;> with_reducible rfl)
  try simp only [List.getElem_toArray, List.getElem_cons_zero, List.getElem_cons_succ, Act.put, List.setIfInBounds_toArray, List.set_cons_zero, List.set_cons_succ]
  refine wpAnyH_take (i := 3) (v := ?_) rfl (by kernel_rfl) (by kernel_rfl) (by kernel_rfl) (fun _ _ _ h => h) (Or.inl ⟨by rfl, ?_⟩) (by assumption) ?_
  rotate_left
  · intro w hSw; (try dsimp only at hSw); (go_simp <;> with_reducible rfl)
  try simp only [List.getElem_toArray, List.getElem_cons_zero, List.getElem_cons_succ, Act.put, List.setIfInBounds_toArray, List.set_cons_zero, List.set_cons_succ]
  refine wpAnyH_take (i := 4) (v := ?_) rfl (by kernel_rfl) (by kernel_rfl) (by kernel_rfl) (fun _ _ _ h => h) (Or.inl ⟨by rfl, ?_⟩) (by assumption) ?_
  rotate_left
  · intro w hSw; (try dsimp only at hSw); (go_simp <;> with_reducible rfl)
  try simp only [List.getElem_toArray, List.getElem_cons_zero, List.getElem_cons_succ, Act.put, List.setIfInBounds_toArray, List.set_cons_zero, List.set_cons_succ]
  refine wpAnyH_take (i := 6) (v := ?_) rfl (by kernel_rfl) (by kernel_rfl) (by kernel_rfl) (fun _ _ _ h => h) (Or.inl ⟨by rfl, ?_⟩) (by assumption) ?_
  rotate_left
  · intro w hSw; (try dsimp only at hSw); (go_simp <;> with_reducible rfl)
  try simp only [List.getElem_toArray, List.getElem_cons_zero, List.getElem_cons_succ, Act.put, List.setIfInBounds_toArray, List.set_cons_zero, List.set_cons_succ]
  refine wpAnyH_take (i := 7) (v := ?_) rfl (by kernel_rfl) (by kernel_rfl) (by kernel_rfl) (fun _ _ _ h => h) (Or.inl ⟨by rfl, ?_⟩) (by assumption) ?_
  rotate_left
  · intro w hSw; (try dsimp only at hSw); (go_simp <;> with_reducible rfl)
  try simp only [List.getElem_toArray, List.getElem_cons_zero, List.getElem_cons_succ, Act.put, List.setIfInBounds_toArray, List.set_cons_zero, List.set_cons_succ]
  have KS : Hid (∀ wy w4, Below W.heap.size W wy → Chg wy w4 (· = w.heap.size + 1) → (w4.cell? ⟨w.heap.size, 0, none⟩ = some (.slice ra R.length rc) ∧ w4.cell? ⟨w.heap.size, 1, none⟩ = some (.slice wa Ws.length wc) ∧ w4.cell? ⟨w.heap.size, 2, none⟩ = some (.slice ca C.length cc))) := hide (fun wy w4 hB hC =>
    ⟨cell_chg hC (KL.out _ hB).1 (by show ¬ w.heap.size = w.heap.size + 1; omega), cell_chg hC (KL.out _ hB).2.1 (by show ¬ w.heap.size = w.heap.size + 1; omega), cell_chg hC (KL.out _ hB).2.2 (by show ¬ w.heap.size = w.heap.size + 1; omega)⟩)
  refine wpAnyH_ready (rs := [2]) (by kernel_rfl) (by simp) ?_
  refine AllReadyH.cons rfl (fun K hK => ?_) AllReadyH.nil
  · rw [if_pos (by rfl)]
    simp only [List.getElem_toArray, List.getElem_cons_zero, List.getElem_cons_succ]
    go_simp
    refine (C1.out _ (below_on B0.out D0.out)).mono ?_
    rintro e v1 ⟨s1, rfl, ho, hn, hp, hb⟩
    have O1 := hide ho; have N1 := hide hn; have E1 := hide hb; have P1 := hide (fun k (hk : k ∈ s1.blk) => Nat.le_trans D0.out.size (hp k hk)); have D1 := hide (below_on D0.out hb)
    clear ho hn hp hb
    refine hK.out _ _ (KL.out _ D1.out) (fun hHeld => ?_)
    clear hK K
    try simp only [List.getElem_toArray, List.getElem_cons_zero, List.getElem_cons_succ, Act.put, List.setIfInBounds_toArray, List.set_cons_zero, List.set_cons_succ]
    refine wpAnyH_ready (rs := [5]) (by kernel_rfl) (by simp) ?_
    refine AllReadyH.cons rfl (fun K hK => ?_) AllReadyH.nil
    · rw [if_pos (by rfl)]
      simp only [List.getElem_toArray, List.getElem_cons_zero, List.getElem_cons_succ]
      go_simp
      refine (C2.out _ (below_on B0.out D1.out)).mono ?_
      rintro e v2 ⟨s2, rfl, ho, hn, hp, hb⟩
      have O2 := hide ho; have N2 := hide hn; have E2 := hide hb; have P2 := hide (fun k (hk : k ∈ s2.blk) => Nat.le_trans D1.out.size (hp k hk)); have D2 := hide (below_on D1.out hb)
      clear ho hn hp hb
      refine hK.out _ _ (KL.out _ D2.out) (fun hHeld => ?_)
      clear hK K
      try simp only [List.getElem_toArray, List.getElem_cons_zero, List.getElem_cons_succ, Act.put, List.setIfInBounds_toArray, List.set_cons_zero, List.set_cons_succ]
      refine wpAnyH_ready (rs := [8]) (by kernel_rfl) (by simp) ?_
      refine AllReadyH.cons rfl (fun K hK => ?_) AllReadyH.nil
      · rw [if_pos (by rfl)]
        simp only [List.getElem_toArray, List.getElem_cons_zero, List.getElem_cons_succ]
        go_simp
        refine (C3.out _ (below_on B0.out D2.out)).mono ?_
        rintro e v3 ⟨s3, rfl, ho, hn, hp, hb⟩
        have O3 := hide ho; have N3 := hide hn; have E3 := hide hb; have P3 := hide (fun k (hk : k ∈ s3.blk) => Nat.le_trans D2.out.size (hp k hk)); have D3 := hide (below_on D2.out hb)
        clear ho hn hp hb
        refine hK.out _ _ (KL.out _ D3.out) (fun hHeld => ?_)
        clear hK K
        try simp only [List.getElem_toArray, List.getElem_cons_zero, List.getElem_cons_succ, Act.put, List.setIfInBounds_toArray, List.set_cons_zero, List.set_cons_succ]
        refine wpAnyH_take (i := 9) (v := ?_) rfl (by kernel_rfl) (by kernel_rfl) (by kernel_rfl) (fun _ _ _ h => h) (Or.inl ⟨by rfl, ?_⟩) (by assumption) ?_
        rotate_left
        · intro w hSw; (try dsimp only at hSw); (go_simp <;> with_reducible rfl)
        try simp only [List.getElem_toArray, List.getElem_cons_zero, List.getElem_cons_succ, Act.put, List.setIfInBounds_toArray, List.set_cons_zero, List.set_cons_succ]
        refine wpAnyH_ready (rs := [10]) (by kernel_rfl) (by simp) ?_
        refine AllReadyH.cons rfl (fun K hK => ?_) AllReadyH.nil
        rw [if_pos (by rfl)]
        simp only [List.getElem_toArray, List.getElem_cons_zero, List.getElem_cons_succ]
        refine wp_store_row 25 (.tmp 2) (.tmp 12) rfl (w.heap.size + 1) rfl [.slice s1.a s1.n s1.c, .slice s2.a s2.n s2.c, .slice s3.a s3.n s3.c] zeroTxn 25 (Z0.out.below' D3.out) rfl rfl (by kernel_rfl) (thRow_oneCell s1 s2 s3) ?_
        intro w4 r4 c4 z4
        have EN := hide (copy_end (w := w) (W := W) (g := w.heap.size + 1) (by omega) hW2.out B0.out D3.out ((O1.out.below E2.out).below E3.out) N1.out P1.out (O2.out.below E3.out) N2.out P2.out O3.out N3.out P3.out c4)
        refine hK.out _ _ (KS.out _ _ D3.out c4) (fun hHeld => ?_)
        refine wpAnyH_done (by kernel_rfl) ?_ _
        simp only [Act.put]
        have y0 := r4.cell' (i := 0) rfl
        have y1 := r4.cell' (i := 1) rfl
        have y2 := r4.cell' (i := 2) rfl
        clear hK hHeld
        go_wp2
        exact bodyPost_ret (v := .agg #[.slice s1.a s1.n s1.c, .slice s2.a s2.n s2.c, .slice s3.a s3.n s3.c]) (by simp [results, Try.results68, go_sem, y0, y1, y2]) rfl ⟨⟨s1, s2, s3⟩, rfl, EN.out⟩

end Go.Proofs.Ytlheloogmgmjnaa
