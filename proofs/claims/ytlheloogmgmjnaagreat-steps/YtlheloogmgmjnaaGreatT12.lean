import Derived.Test.YtlheloogmgmjnaaGreatT11
import Derived.Laws.AppendOwnNone
import Derived.Maps.AppendAt
import Derived.RegionTactic
import Derived.Test.YtlheloogmgmjnaaGreatProg
import Derived.Test.YtlheloogmgmjnaaGreatT08
import Derived.Deep.DeepMust
import Derived.Test.YtlheloogmgmjnaaGreatT03
import Derived.Deep.RegionHeld
namespace Go.Proofs.YtlheloogmgmjnaaGreat
open Go.RowKit

theorem Own.below {w w' : World} {e : TypeId} {sz : Nat} {s : Sl} {xs : List Value} (h : Own w e sz s xs) (hb : Below w.heap.size w w') : Own w' e sz s xs := h.chg (Chg.of_below hb (fun _ => False)) (fun _ _ => id)

theorem ownsRow_sl {w : World} {base : Nat} {e : TypeId} {sz : Nat} {v : Value} {n : Nat} {xs : List Value} (h : w.ownsRow base e sz v n xs) : ∃ s : Sl, v = .slice s.a s.n s.c ∧ s.n = n ∧ v.ownBlock.toList = s.blk := by
  obtain ⟨_, ⟨rfl, hn⟩ | ⟨g, cap, cur, rfl, _⟩⟩ := h
  · exact ⟨⟨none, 0, 0⟩, rfl, hn.symm, rfl⟩
  · exact ⟨⟨some ⟨g, 0, none⟩, n, cap⟩, rfl, rfl, rfl⟩

/-- 'append(s, x...)': s owned; x whatever. -/
theorem run_append_sl {P : Program} (w : World) (t ty e : TypeId) (i : TypeInfo) (z : Value) (size bytes : Nat) (ht : P.underlying t = some (.slice e)) (hi : P.info? e = some i) (hz : i.zero = some z)
    (hsize : i.size = size) (hby : i.bytes = bytes) (hzs : z.cells.size = size) (hsz : 0 < size)
    (s : Sl) (xs : List Value) (hown : Own w e size s xs) (ao : Option Addr) (m c : Nat) (news : List Value) (hl : news.length = m * size) (hnil : ao = none → m = 0 ∧ c = 0)
    (hpos : ∀ ad, ao = some ad → ∀ j u, news[j]? = some u → w.cell? (ad.add j) = some u) (h1 : ∀ u ∈ news, u.oneCell' = true) (h63 : s.n + m ≤ maxLen) (hbytes : (s.n + m) * bytes ≤ 140737488355328) :
    ∃ (s' : Sl) (w' : World), (Builtin.append_ #[t, t] ty #[.slice s.a s.n s.c, .slice ao m c]).run P w = .ok (.slice s'.a s'.n s'.c) w' ∧ Own w' e size s' (xs ++ news) ∧ s'.n = s.n + m ∧ Chg w w' (fun k => k ∈ s.blk) ∧ (∀ k ∈ s'.blk, k ∈ s.blk ∨ k = w.heap.size) := by
  cases ao with
  | none =>
    obtain ⟨rfl, rfl⟩ := hnil rfl
    obtain rfl : news = [] := List.eq_nil_of_length_eq_zero (by simpa using hl)
    have hrun := run_append_owned_none (P := P) (w := w) 0 t ty e i size ht hi (.slice s.a s.n s.c) s.n xs hown
    exact ⟨s, w, hrun, by simpa using hown, rfl, Chg.refl _ _, fun k hk => Or.inl hk⟩
  | some ad =>
    obtain ⟨v', w', hr, h2, h3, _, h5⟩ := run_append_own_at (P := P) w 0 t ty e i z size bytes ht hi hz hsize hby hzs hsz (.slice s.a s.n s.c) s.n xs hown ad m c news hl (hpos ad rfl) h1 h63 hbytes (Nat.zero_le _)
    obtain ⟨s', hv, hn, hblk⟩ := ownsRow_sl h2
    have hsb : (Value.slice s.a s.n s.c).ownBlock.toList = s.blk := by
      rcases s with ⟨a, n, c⟩; cases a <;> rfl
    subst hv
    refine ⟨s', w', hr, ?_, hn, ?_, ?_⟩
    · unfold Own; rw [← hn] at h2; exact h2
    · refine (Chg.grown h3).mono (fun k _ hk => ?_)
      rw [← hsb, ← hk]; simp
    · intro k hk
      rw [← hblk] at hk
      rcases h5 with h5 | h5
      · left; rw [← hsb, ← h5]; exact hk
      · right; rw [h5] at hk; simpa using hk

theorem wp_append_sl {P : Program} {w : World} {o : Oper} {a : Act} {K : Act → World → Prop} {Q : Exit → Act → World → Prop} (sO x : Operand) (t : TypeId)
    (ho : o.op = .call { callee := .builtin .append, args := #[sO, x], argTypes := #[t, t] })
    (e : TypeId) (i : TypeInfo) (z : Value) (size bytes : Nat) (ht : P.underlying t = some (.slice e)) (hi : P.info? e = some i) (hz : i.zero = some z)
    (hsize : i.size = size) (hby : i.bytes = bytes) (hzs : z.cells.size = size) (hsz : 0 < size)
    (s : Sl) (xs : List Value) (hs : a.eval sO = .slice s.a s.n s.c) (hown : Own w e size s xs) (ao : Option Addr) (m c : Nat) (news : List Value) (hx : a.eval x = .slice ao m c) (hl : news.length = m * size) (hnil : ao = none → m = 0 ∧ c = 0)
    (hpos : ∀ ad, ao = some ad → ∀ j u, news[j]? = some u → w.cell? (ad.add j) = some u) (h1 : ∀ u ∈ news, u.oneCell' = true) (h63 : s.n + m ≤ maxLen) (hbytes : (s.n + m) * bytes ≤ 140737488355328)
    (h : ∀ (s' : Sl) (w' : World), Own w' e size s' (xs ++ news) → s'.n = s.n + m → Chg w w' (fun k => k ∈ s.blk) → (∀ k ∈ s'.blk, k ∈ s.blk ∨ k = w.heap.size) → K (a.put o.dst (.slice s'.a s'.n s'.c)) w') : o.wp P a w K Q := by
  obtain ⟨s', w', hr, h2, h3, h4, h5⟩ := run_append_sl (P := P) w t o.type e i z size bytes ht hi hz hsize hby hzs hsz s xs hown ao m c news hl hnil hpos h1 h63 hbytes
  unfold Oper.wp execOp
  simp only [ho, resolve, invoke, builtin, Sem.run_bind, Sem.run_pure, Result.andThen_ok, List.map_toArray, List.map_cons, List.map_nil, hs, hx, hr]
  exact h s' w' h2 h3 h4 h5

theorem wpList_append_sl {P : Program} {w : World} {ops : Array Oper} {rest : List Oper} {o : Oper} {a : Act} {Q : Exit → Act → World → Prop} (hgd : o.guard = none) (sO x : Operand) (t : TypeId)
    (ho : o.op = .call { callee := .builtin .append, args := #[sO, x], argTypes := #[t, t] })
    (e : TypeId) (i : TypeInfo) (z : Value) (size bytes : Nat) (ht : P.underlying t = some (.slice e)) (hi : P.info? e = some i) (hz : i.zero = some z)
    (hsize : i.size = size) (hby : i.bytes = bytes) (hzs : z.cells.size = size) (hsz : 0 < size)
    (s : Sl) (xs : List Value) (hs : a.eval sO = .slice s.a s.n s.c) (hown : Own w e size s xs) (ao : Option Addr) (m c : Nat) (news : List Value) (hx : a.eval x = .slice ao m c) (hl : news.length = m * size) (hnil : ao = none → m = 0 ∧ c = 0)
    (hpos : ∀ ad, ao = some ad → ∀ j u, news[j]? = some u → w.cell? (ad.add j) = some u) (h1 : ∀ u ∈ news, u.oneCell' = true) (h63 : s.n + m ≤ maxLen) (hbytes : (s.n + m) * bytes ≤ 140737488355328)
    (h : ∀ (s' : Sl) (w' : World), Own w' e size s' (xs ++ news) → s'.n = s.n + m → Chg w w' (fun k => k ∈ s.blk) → (∀ k ∈ s'.blk, k ∈ s.blk ∨ k = w.heap.size) → wpList P ops Q rest (a.put o.dst (.slice s'.a s'.n s'.c)) w') : wpList P ops Q (o :: rest) a w :=
  wpList_plain hgd fun _ hK => wp_append_sl sO x t ho e i z size bytes ht hi hz hsize hby hzs hsz s xs hs hown ao m c news hx hl hnil hpos h1 h63 hbytes fun s' w' h2 h3 h4 h5 => hK _ _ (h s' w' h2 h3 h4 h5)

theorem step_append_sl {P : Program} {w : World} {ops : Array Oper} {o : Oper} {a : Act} {K : Act → World → Prop} {Q : Exit → Act → World → Prop} {E : Prop} (hgd : o.guard = none) (sO x : Operand) (t : TypeId)
    (ho : o.op = .call { callee := .builtin .append, args := #[sO, x], argTypes := #[t, t] })
    (e : TypeId) (i : TypeInfo) (z : Value) (size bytes : Nat) (ht : P.underlying t = some (.slice e)) (hi : P.info? e = some i) (hz : i.zero = some z)
    (hsize : i.size = size) (hby : i.bytes = bytes) (hzs : z.cells.size = size) (hsz : 0 < size)
    (s : Sl) (xs : List Value) (hs : a.eval sO = .slice s.a s.n s.c) (hown : Own w e size s xs) (ao : Option Addr) (m c : Nat) (news : List Value) (hx : a.eval x = .slice ao m c) (hl : news.length = m * size) (hnil : ao = none → m = 0 ∧ c = 0)
    (hpos : ∀ ad, ao = some ad → ∀ j u, news[j]? = some u → w.cell? (ad.add j) = some u) (h1 : ∀ u ∈ news, u.oneCell' = true) (h63 : s.n + m ≤ maxLen) (hbytes : (s.n + m) * bytes ≤ 140737488355328)
    (h : ∀ (s' : Sl) (w' : World), Own w' e size s' (xs ++ news) → s'.n = s.n + m → Chg w w' (fun k => k ∈ s.blk) → (∀ k ∈ s'.blk, k ∈ s.blk ∨ k = w.heap.size) → K (a.put o.dst (.slice s'.a s'.n s'.c)) w') :
    if Region.wanted o (yielded ops a.tmps) = true then Oper.wp P o a w K Q else E := by
  have hw : Region.wanted o (yielded ops a.tmps) = true := by simp [Region.wanted, hgd]
  rw [if_pos hw]
  exact wp_append_sl sO x t ho e i z size bytes ht hi hz hsize hby hzs hsz s xs hs hown ao m c news hx hl hnil hpos h1 h63 hbytes h

end Go.Proofs.YtlheloogmgmjnaaGreat

namespace Go.Proofs.YtlheloogmgmjnaaGreat
open Go.RowKit

/-- A transaction that came in: its lists; has it ended; its result. -/
structure PRec where
  h : TH
  ended : Bool
  ab : Bool
  out : Int

def PRec.row (r : PRec) : List Value := [.slice r.h.r.a r.h.r.n r.h.r.c, .slice r.h.w.a r.h.w.n r.h.w.c, .slice r.h.c.a r.h.c.n r.h.c.c, .bool r.ended, .bool r.ab, .int .i64 r.out]

/-- The program's store ahead of all steps: where it lies. -/
structure PM where
  b : Nat
  room : Nat
  taken : Nat
  recs : List PRec
  rcS : Sl
  ends : List Nat
  enS : Sl
  mbs : List Nat
  mkS : Sl
  doS : Sl

def PM.row (M : PM) : List Value := [.int .i64 M.room, .int .i64 M.taken, .slice M.rcS.a M.rcS.n M.rcS.c, .slice M.enS.a M.enS.n M.enS.c, .slice M.mkS.a M.mkS.n M.mkS.c, .slice M.doS.a M.doS.n M.doS.c, .int .i64 0]
def mkCells (l : List Nat) : List Value := l.flatMap fun g => [.int .i64 0, .map (some g)]
def PM.mut (M : PM) : List Nat := M.b :: (M.rcS.blk ++ M.enS.blk)
def PM.imm (M : PM) : List Nat := M.mkS.blk ++ M.mbs
def PM.foot (M : PM) : List Nat := M.mut ++ M.imm
def PM.closed (M : PM) : Nat := M.ends.getD (M.ends.length - 1) 0

structure PAt (w : World) (M : PM) : Prop where
  row : RowAt w M.b 98 M.row
  rc : Own w 158 6 M.rcS (M.recs.flatMap PRec.row)
  rcn : M.rcS.n = M.recs.length
  en : Own w 3 1 M.enS (ints (nats M.ends))
  enn : M.enS.n = M.ends.length
  mkO : Own w 126 2 M.mkS (mkCells M.mbs)
  mkn : M.mkS.n = M.mbs.length
  mk1 : 1 ≤ M.mbs.length
  mk8 : M.mbs.length ≤ 8
  maps : ∀ g ∈ M.mbs, w.heap[g]? = some (.map #[] 0)
  nodup : M.mut.Nodup
  apart : ∀ k ∈ M.imm, k ∉ M.mut
  fresh : ∀ r ∈ M.recs, r.ended = false
  txns : M.recs.length ≤ 150
  room500 : M.room ≤ 500
  taken500 : M.taken ≤ M.room
  ends1 : M.ends.length ≤ M.recs.length
  ends2 : M.ends.length ≤ M.closed
  endsle : ∀ e ∈ M.ends, 1 ≤ e ∧ e ≤ M.recs.length

theorem blk_of_map {w : World} {g : Nat} {o : Obj} (h : w.heap[g]? = some o) : g < w.heap.size := by
  by_cases hb : g < w.heap.size
  · exact hb
  · rw [Array.getElem?_eq_none (by omega)] at h; cases h

theorem PAt.foot_lt {w : World} {M : PM} (h : PAt w M) : ∀ k ∈ M.foot, k < w.heap.size := by
  intro k hk
  simp only [PM.foot, PM.mut, PM.imm, List.mem_cons, List.mem_append] at hk
  rcases hk with (hk | hk | hk) | hk | hk
  · rw [hk]; exact h.row.lt
  · exact h.rc.blk_lt k hk
  · exact h.en.blk_lt k hk
  · exact h.mkO.blk_lt k hk
  · exact blk_of_map (h.maps k hk)

theorem PAt.chg {w w' : World} {D : Nat → Prop} {M : PM} (h : PAt w M) (hc : Chg w w' D) (hd : ∀ k ∈ M.foot, ¬ D k) : PAt w' M :=
  { h with
    row := h.row.chg hc (hd _ (by simp [PM.foot, PM.mut]))
    rc := h.rc.chg hc (fun k hk => hd k (by simp [PM.foot, PM.mut, hk]))
    en := h.en.chg hc (fun k hk => hd k (by simp [PM.foot, PM.mut, hk]))
    mkO := h.mkO.chg hc (fun k hk => hd k (by simp [PM.foot, PM.imm, hk]))
    maps := fun g hg => by rw [hc.block g (blk_of_map (h.maps g hg)) (hd g (by simp [PM.foot, PM.imm, hg]))]; exact h.maps g hg }

theorem PAt.below {w w' : World} {M : PM} (h : PAt w M) (hb : Below w.heap.size w w') : PAt w' M := h.chg (Chg.of_below hb (fun _ => False)) (fun _ _ => id)
theorem PAt.drewN {w : World} {M : PM} (h : PAt w M) (n : Nat) : PAt (w.drewN n) M := h.below (below_drewN (Below.refl _ _) n)

theorem PAt.closed_le {w : World} {M : PM} (h : PAt w M) : M.closed ≤ M.recs.length := by
  unfold PM.closed
  by_cases h0 : M.ends.length = 0
  · rw [List.eq_nil_of_length_eq_zero h0]; simp
  · have hk : M.ends.length - 1 < M.ends.length := by omega
    rw [nat_get hk]; exact (h.endsle _ (List.getElem_mem hk)).2

end Go.Proofs.YtlheloogmgmjnaaGreat

namespace Go.Proofs.YtlheloogmgmjnaaGreat
open Go.RowKit

structure Say where
  said : Bool
  v : Int
  th : Bool
def Say.row (s : Say) : List Value := [.bool s.said, .int .i64 s.v, .bool s.th]
def sayCells (l : List Say) : List Value := l.flatMap Say.row

structure Mac where
  h : TH
  next : Nat
  regs : List Int
  says : List Say
  ab : Bool
def Mac.row (m : Mac) : List Value :=
  .slice m.h.r.a m.h.r.n m.h.r.c :: .slice m.h.w.a m.h.w.n m.h.w.c :: .slice m.h.c.a m.h.c.n m.h.c.c :: .int .i64 m.next :: (ints m.regs ++ (sayCells m.says ++ [.bool m.ab]))

theorem sayCells_length (l : List Say) : (sayCells l).length = 3 * l.length := by
  induction l with
  | nil => rfl
  | cons s l ih => simp [sayCells, Say.row] at *; omega
theorem sayCells_get (l : List Say) : ∀ (i : Nat), i < l.length → ∃ s, l[i]? = some s ∧ (sayCells l)[i * 3]? = some (.bool s.said) ∧ (sayCells l)[i * 3 + 1]? = some (.int .i64 s.v) ∧ (sayCells l)[i * 3 + 2]? = some (.bool s.th) := by
  induction l with
  | nil => intro i hi; simp at hi
  | cons s l ih =>
    intro i hi
    have e : sayCells (s :: l) = .bool s.said :: .int .i64 s.v :: .bool s.th :: sayCells l := by simp [sayCells, Say.row]
    cases i with
    | zero => exact ⟨s, rfl, by simp [e]⟩
    | succ i =>
      obtain ⟨t, h1, h2⟩ := ih i (by simpa using hi)
      refine ⟨t, by simpa using h1, ?_⟩
      rw [e, show (i + 1) * 3 = i * 3 + 1 + 1 + 1 by omega]
      simpa using h2
theorem sayCells_set (l : List Say) (s : Say) : ∀ (i : Nat), i < l.length → (((sayCells l).set (i * 3) (.bool s.said)).set (i * 3 + 1) (.int .i64 s.v)).set (i * 3 + 2) (.bool s.th) = sayCells (l.set i s) := by
  induction l with
  | nil => intro i hi; simp at hi
  | cons x l ih =>
    intro i hi
    have e : ∀ (y : Say) (l : List Say), sayCells (y :: l) = .bool y.said :: .int .i64 y.v :: .bool y.th :: sayCells l := by intro y l; simp [sayCells, Say.row]
    cases i with
    | zero => simp [e]
    | succ i =>
      have := ih i (by simpa using hi)
      rw [e, List.set_cons_succ, e, show (i + 1) * 3 = i * 3 + 1 + 1 + 1 by omega]
      simpa using this

structure MacAt (w : World) (g : Nat) (T : TypeId) (pre suf : List Value) (m : Mac) : Prop where
  row : RowAt w g T (pre ++ (m.row ++ suf))
  r6 : m.regs.length = 6
  s6 : m.says.length = 6

theorem mid_get {pre row suf : List Value} {i : Nat} {v : Value} (h : row[i]? = some v) : (pre ++ (row ++ suf))[pre.length + i]? = some v := by
  have hi : i < row.length := by
    by_cases hb : i < row.length
    · exact hb
    · rw [List.getElem?_eq_none (by omega)] at h; cases h
  rw [List.getElem?_append_right (by omega), Nat.add_sub_cancel_left, List.getElem?_append_left hi]
  exact h
theorem mid_set {pre row suf : List Value} {i : Nat} (v : Value) (hi : i < row.length) : (pre ++ (row ++ suf)).set (pre.length + i) v = pre ++ (row.set i v ++ suf) := by
  rw [List.set_append_right _ _ (by omega), Nat.add_sub_cancel_left, List.set_append_left _ _ hi]

theorem Mac.row_length {m : Mac} (hr : m.regs.length = 6) (hs : m.says.length = 6) : m.row.length = 29 := by
  simp [Mac.row, ints, sayCells_length, hr, hs]
theorem Mac.row_reg {m : Mac} (hr : m.regs.length = 6) {i : Nat} (hi : i < 6) : m.row[4 + i]? = some (.int .i64 (m.regs.getD i 0)) := by
  rw [show 4 + i = i + 1 + 1 + 1 + 1 by omega]
  simp only [Mac.row, List.getElem?_cons_succ]
  rw [List.getElem?_append_left (by simp [ints, hr]; omega)]
  exact ints_getD _ _ (by omega)
theorem Mac.row_set_reg {m : Mac} (hr : m.regs.length = 6) {i : Nat} (hi : i < 6) (y : Int) : m.row.set (4 + i) (.int .i64 y) = { m with regs := m.regs.set i y }.row := by
  rw [show 4 + i = i + 1 + 1 + 1 + 1 by omega]
  simp only [Mac.row, List.set_cons_succ]
  rw [List.set_append_left _ _ (by simp [ints, hr]; omega), ints_set]
theorem Mac.row_say {m : Mac} (hr : m.regs.length = 6) (hs : m.says.length = 6) {i : Nat} (hi : i < 6) : ∃ s, m.says[i]? = some s ∧ m.row[10 + i * 3]? = some (.bool s.said) ∧ m.row[10 + i * 3 + 1]? = some (.int .i64 s.v) ∧ m.row[10 + i * 3 + 2]? = some (.bool s.th) := by
  obtain ⟨s, h0, h1, h2, h3⟩ := sayCells_get m.says i (by omega)
  have key : ∀ (j : Nat) (v : Value), (sayCells m.says)[j]? = some v → m.row[10 + j]? = some v := by
    intro j v h
    have hj : j < (sayCells m.says).length := by
      by_cases hb : j < (sayCells m.says).length
      · exact hb
      · rw [List.getElem?_eq_none (by omega)] at h; cases h
    rw [show 10 + j = (6 + j) + 1 + 1 + 1 + 1 by omega]
    simp only [Mac.row, List.getElem?_cons_succ]
    rw [List.getElem?_append_right (by simp [ints, hr]), show 6 + j - (ints m.regs).length = j by simp [ints, hr], List.getElem?_append_left hj]
    exact h
  exact ⟨s, h0, key _ _ h1, by rw [Nat.add_assoc]; exact key _ _ h2, by rw [Nat.add_assoc]; exact key _ _ h3⟩
theorem Mac.row_set_say {m : Mac} (hr : m.regs.length = 6) (hs : m.says.length = 6) {i : Nat} (hi : i < 6) (s : Say) :
    ((m.row.set (10 + i * 3) (.bool s.said)).set (10 + i * 3 + 1) (.int .i64 s.v)).set (10 + i * 3 + 2) (.bool s.th) = { m with says := m.says.set i s }.row := by
  have hl := sayCells_length m.says
  have key : ∀ (L : List Value) (j : Nat) (v : Value), L.length = 18 → j < 18 →
      (Value.slice m.h.r.a m.h.r.n m.h.r.c :: .slice m.h.w.a m.h.w.n m.h.w.c :: .slice m.h.c.a m.h.c.n m.h.c.c :: .int .i64 m.next :: (ints m.regs ++ (L ++ [.bool m.ab]))).set (10 + j) v =
      (Value.slice m.h.r.a m.h.r.n m.h.r.c :: .slice m.h.w.a m.h.w.n m.h.w.c :: .slice m.h.c.a m.h.c.n m.h.c.c :: .int .i64 m.next :: (ints m.regs ++ (L.set j v ++ [.bool m.ab]))) := by
    intro L j v hL hj
    rw [show 10 + j = (6 + j) + 1 + 1 + 1 + 1 by omega]
    simp only [List.set_cons_succ]
    rw [List.set_append_right _ _ (by simp [ints, hr]), show 6 + j - (ints m.regs).length = j by simp [ints, hr], List.set_append_left _ _ (by omega)]
  simp only [Mac.row]
  rw [← sayCells_set m.says s i (by omega)]
  rw [key _ _ _ (by omega) (by omega), Nat.add_assoc, key _ _ _ (by simp; omega) (by omega), Nat.add_assoc, key _ _ _ (by simp; omega) (by omega)]
theorem Mac.row_ab {m : Mac} (hr : m.regs.length = 6) (hs : m.says.length = 6) : m.row[28]? = some (.bool m.ab) := by
  have hl := sayCells_length m.says
  rw [show 28 = 24 + 1 + 1 + 1 + 1 by omega]
  simp only [Mac.row, List.getElem?_cons_succ]
  rw [List.getElem?_append_right (by simp [ints, hr]), show 24 - (ints m.regs).length = 18 by simp [ints, hr], List.getElem?_append_right (by omega), show 18 - (sayCells m.says).length = 0 by omega]
  rfl
theorem Mac.row_set_ab {m : Mac} (hr : m.regs.length = 6) (hs : m.says.length = 6) (b : Bool) : m.row.set 28 (.bool b) = { m with ab := b }.row := by
  have hl := sayCells_length m.says
  rw [show 28 = 24 + 1 + 1 + 1 + 1 by omega]
  simp only [Mac.row, List.set_cons_succ]
  rw [List.set_append_right _ _ (by simp [ints, hr]), show 24 - (ints m.regs).length = 18 by simp [ints, hr], List.set_append_right _ _ (by omega), show 18 - (sayCells m.says).length = 0 by omega]
  rfl
theorem Mac.row_set_next {m : Mac} (n : Nat) : m.row.set 3 (.int .i64 n) = { m with next := n }.row := by simp [Mac.row]

theorem MacAt.cell {w : World} {g : Nat} {T : TypeId} {pre suf : List Value} {m : Mac} (h : MacAt w g T pre suf m) {i : Nat} {v : Value} (hi : m.row[i]? = some v) : w.cell? ⟨g, pre.length + i, none⟩ = some v := h.row.cell' (mid_get hi)
theorem MacAt.chg {w w' : World} {D : Nat → Prop} {g : Nat} {T : TypeId} {pre suf : List Value} {m : Mac} (h : MacAt w g T pre suf m) (hc : Chg w w' D) (hg : ¬ D g) : MacAt w' g T pre suf m := ⟨h.row.chg hc hg, h.r6, h.s6⟩
theorem MacAt.set1 {w : World} {g : Nat} {T : TypeId} {pre suf : List Value} {m m' : Mac} (h : MacAt w g T pre suf m) {i : Nat} {v : Value} (hi : i < 29) (e : m.row.set i v = m'.row) (hr : m'.regs.length = 6) (hs : m'.says.length = 6) : MacAt (w.setCell ⟨g, pre.length + i, none⟩ v) g T pre suf m' := by
  refine ⟨?_, hr, hs⟩
  have := h.row.set (pre.length + i) v
  rw [mid_set _ (by rw [Mac.row_length h.r6 h.s6]; exact hi), e] at this
  exact this
theorem MacAt.set3 {w : World} {g : Nat} {T : TypeId} {pre suf : List Value} {m : Mac} (h : MacAt w g T pre suf m) {i : Nat} (hi : i < 6) (s : Say) :
    MacAt (((w.setCell ⟨g, pre.length + (10 + i * 3), none⟩ (.bool s.said)).setCell ⟨g, pre.length + (10 + i * 3 + 1), none⟩ (.int .i64 s.v)).setCell ⟨g, pre.length + (10 + i * 3 + 2), none⟩ (.bool s.th)) g T pre suf { m with says := m.says.set i s } := by
  refine ⟨?_, h.r6, by simp [h.s6]⟩
  have := ((h.row.set (pre.length + (10 + i * 3)) (.bool s.said)).set (pre.length + (10 + i * 3 + 1)) (.int .i64 s.v)).set (pre.length + (10 + i * 3 + 2)) (.bool s.th)
  have hl := Mac.row_length h.r6 h.s6
  rw [mid_set _ (by omega), mid_set _ (by simp; omega), mid_set _ (by simp; omega), Mac.row_set_say h.r6 h.s6 hi s] at this
  exact this
theorem MacAt.below' {w w' : World} {g : Nat} {T : TypeId} {pre suf : List Value} {m : Mac} (h : MacAt w g T pre suf m) (hb : Below w.heap.size w w') : MacAt w' g T pre suf m := ⟨h.row.below' hb, h.r6, h.s6⟩

end Go.Proofs.YtlheloogmgmjnaaGreat

namespace Go.Proofs.YtlheloogmgmjnaaGreat
open Go.RowKit

theorem IntsAt.src' {w : World} {ao : Option Addr} {xs : List Int} (h : IntsAt w ao xs) : ∀ ad, ao = some ad → ∀ j u, (ints xs)[j]? = some u → w.cell? (ad.add j) = some u := by
  intro ad ha j u hu
  have hj := (ints_get xs j u hu).1
  obtain ⟨ad', ha', hc⟩ := h.src (by simp [ints]; omega)
  rw [ha] at ha'; cases ha'
  exact hc j u hu
theorem InsAt.src' {w : World} {ao : Option Addr} {xs : List Ins} (h : InsAt w ao xs) : ∀ ad, ao = some ad → ∀ j u, (insCells xs)[j]? = some u → w.cell? (ad.add j) = some u := by
  intro ad ha j u hu
  have hj : j < (insCells xs).length := (List.getElem?_eq_some_iff.1 hu).1
  obtain ⟨ad', ha', hc⟩ := h.src (by omega)
  rw [ha] at ha'; cases ha'
  exact hc j u hu

theorem Own.instrs {w : World} {e : TypeId} {s : Sl} {xs : List Ins} (h : Own w e 4 s (insCells xs)) : InsAt w s.a xs := by
  by_cases h0 : xs = []
  · exact Or.inl h0
  · have hp : 0 < xs.length := List.length_pos_iff.2 h0
    obtain ⟨g, ha, _⟩ := h.cell (insCells_get xs 0 hp).1
    refine Or.inr ⟨g, 0, ha, fun i hi => ?_⟩
    obtain ⟨i0, i1, i2, i3⟩ := insCells_get xs i hi
    obtain ⟨g0, a0, c0⟩ := h.cell i0
    obtain ⟨g1, a1, c1⟩ := h.cell i1
    obtain ⟨g2, a2, c2⟩ := h.cell i2
    obtain ⟨g3, a3, c3⟩ := h.cell i3
    rw [ha] at a0 a1 a2 a3; simp at a0 a1 a2 a3; subst a0 a1 a2 a3
    rw [Nat.zero_add]; exact ⟨c0, c1, c2, c3⟩

/-- The lists of a header that are nil have no room. -/
def TH.nilOk (h : TH) : Prop := (h.r.a = none → h.r.n = 0 ∧ h.r.c = 0) ∧ (h.w.a = none → h.w.n = 0 ∧ h.w.c = 0) ∧ (h.c.a = none → h.c.n = 0 ∧ h.c.c = 0)

/-- A transaction of lists of its own. -/
structure OwnTx (w : World) (h : TH) (t : Tx) : Prop where
  rO : Own w 3 1 h.r (ints t.r)
  wO : Own w 3 1 h.w (ints t.w)
  cO : Own w 114 4 h.c (insCells t.c)
  rn : h.r.n = t.r.length
  wn : h.w.n = t.w.length
  cn : h.c.n = t.c.length

theorem Own.cap {w : World} {e : TypeId} {sz : Nat} {s : Sl} {xs : List Value} (h : Own w e sz s xs) : s.n ≤ s.c := by
  rcases h.row with ⟨rfl, _⟩ | ⟨_, _, _, _, hn, _⟩
  · exact Nat.le_refl _
  · exact hn
theorem Own.nilOk {w : World} {e : TypeId} {sz : Nat} {s : Sl} {xs : List Value} (h : Own w e sz s xs) : s.a = none → s.n = 0 ∧ s.c = 0 := by
  intro ha
  rcases h.row with ⟨rfl, _⟩ | ⟨g, _, hg, _⟩
  · exact ⟨rfl, rfl⟩
  · rw [ha] at hg; cases hg

theorem OwnTx.at {w w0 : World} {h h0 : TH} {t : Tx} (o : OwnTx w h t) (x : TxAt w0 h0 t) : TxAt w h t :=
  ⟨o.rn, o.wn, o.cn, o.rO.cap, o.wO.cap, o.cO.cap, by rw [o.rn, ← x.rl]; exact x.rb, by rw [o.wn, ← x.wl]; exact x.wb, by rw [o.cn, ← x.cl]; exact x.cb, o.rO.ints, o.wO.ints, o.cO.instrs⟩

def TH.blks (h : TH) : List Nat := h.r.blk ++ (h.w.blk ++ h.c.blk)

set_option maxHeartbeats 2000000 in
set_option maxRecDepth 100000 in
theorem rcopied_any (h : TH) (t : Tx) (w : World) (hx : TxAt w h t) (hn : h.nilOk) :
    Calls Tryz.prog 115 #[.agg h.cells] w fun e w' => ∃ h' : TH, e = .returned (.agg h'.cells) ∧ OwnTx w' h' t ∧ (∀ k ∈ h'.blks, w.heap.size ≤ k) ∧ Below w.heap.size w w' := by
  obtain ⟨i0, hi, hz0, hz1, hz2⟩ := info_parts Tryz.info3
  obtain ⟨j0, gi, gz0, gz1, gz2⟩ := info_parts Tryz.info114
  obtain ⟨⟨ra, rn, rc⟩, ⟨wa, wn, wc⟩, ⟨ca, cn, cc⟩⟩ := h
  obtain ⟨R, W, C⟩ := t
  obtain ⟨rl, wl, cl, _, _, _, b4, b5, b6, ri, wi, ci⟩ := hx
  obtain ⟨n1, n2, n3⟩ := hn
  simp only at rl wl cl b4 b5 b6 ri wi ci n1 n2 n3
  subst rl wl cl
  have IR := hide (fun wx (hb : Below w.heap.size w wx) => (ri.below hb).src')
  have IW := hide (fun wx (hb : Below w.heap.size w wx) => (wi.below hb).src')
  have IC := hide (fun wx (hb : Below w.heap.size w wx) => (ci.below hb).src')
  have N1 := hide n1; have N2 := hide n2; have N3 := hide n3
  have M1 := hide (show Sl.nil.n + R.length ≤ maxLen by simp [Sl.nil]; unfold maxLen; omega)
  have M2 := hide (show Sl.nil.n + W.length ≤ maxLen by simp [Sl.nil]; unfold maxLen; omega)
  have M3 := hide (show Sl.nil.n + C.length ≤ maxLen by simp [Sl.nil]; unfold maxLen; omega)
  have Q1 := hide (show (Sl.nil.n + R.length) * 8 ≤ 140737488355328 by simp [Sl.nil]; omega)
  have Q2 := hide (show (Sl.nil.n + W.length) * 8 ≤ 140737488355328 by simp [Sl.nil]; omega)
  have Q3 := hide (show (Sl.nil.n + C.length) * 32 ≤ 140737488355328 by simp [Sl.nil]; omega)
  clear ri wi ci n1 n2 n3 b4 b5 b6
  show Calls Tryz.prog 115 #[.agg #[.slice ra R.length rc, .slice wa W.length wc, .slice ca C.length cc]] w _
  have A0 := hide (((rowAt_alloc w [.slice ra R.length rc, .slice wa W.length wc, .slice ca C.length cc] 33).alloc (Obj.cells #[.slice none 0 0, .slice none 0 0, .slice none 0 0] 33)).alloc (Obj.cells #[.slice none 0 0, .slice none 0 0, .slice none 0 0] 33))
  have Z0 := hide ((rowAt_alloc (w.alloc (Obj.cells #[.slice ra R.length rc, .slice wa W.length wc, .slice ca C.length cc] 33)) [.slice none 0 0, .slice none 0 0, .slice none 0 0] 33).alloc (Obj.cells #[.slice none 0 0, .slice none 0 0, .slice none 0 0] 33))
  have O0 := hide (rowAt_alloc ((w.alloc (Obj.cells #[.slice ra R.length rc, .slice wa W.length wc, .slice ca C.length cc] 33)).alloc (Obj.cells #[.slice none 0 0, .slice none 0 0, .slice none 0 0] 33)) [.slice none 0 0, .slice none 0 0, .slice none 0 0] 33)
  have B0 := hide (below_on (below_on (below_alloc1 w (Obj.cells #[.slice ra R.length rc, .slice wa W.length wc, .slice ca C.length cc] 33)) (below_alloc1 _ (Obj.cells #[.slice none 0 0, .slice none 0 0, .slice none 0 0] 33))) (below_alloc1 _ (Obj.cells #[.slice none 0 0, .slice none 0 0, .slice none 0 0] 33)))
  simp only [size_alloc_eq] at Z0 O0
  go_enter Tryz.func115, Tryz.ntmps115
  go_wp2_with (first
    | (at_builtin; refine wpList_append_sl rfl (.tmp 5) (.tmp 7) 30 rfl 3 i0 (.int .i64 0) 1 8 Tryz.underlying30 hi hz0 hz1 hz2 rfl (by decide) Sl.nil [] rfl (Own.nil _ _ _) ra R.length rc (ints R) rfl (by simp [ints]) N1.out (IR.out _ B0.out) (ints_oneCell' R) M1.out Q1.out ?_; intro s1 w1 ow1 sn1 ch1 bl1; have B1 := hide (below_on B0.out (ch1.below (by simp [Sl.blk, Sl.nil]))); have A1 := hide (A0.out.chg ch1 (by simp [Sl.blk, Sl.nil])); have Z1 := hide (Z0.out.chg ch1 (by simp [Sl.blk, Sl.nil])); have O1 := hide (O0.out.chg ch1 (by simp [Sl.blk, Sl.nil])); have a10 := A1.out.cell' (i := 0) rfl; have a11 := A1.out.cell' (i := 1) rfl; have a12 := A1.out.cell' (i := 2) rfl; have o10 := O1.out.cell' (i := 0) rfl; have o11 := O1.out.cell' (i := 1) rfl; have o12 := O1.out.cell' (i := 2) rfl; have of1 := O1.out.frozen; have z10 := Z1.out.cell' (i := 0) rfl; have z11 := Z1.out.cell' (i := 1) rfl; have z12 := Z1.out.cell' (i := 2) rfl; have zf1 := Z1.out.frozen; have OW1 := hide ow1; have SN1 := hide sn1; have CH1 := hide ch1; have BL1 := hide bl1; clear ow1 sn1 ch1 bl1)
    | (at_builtin; refine wpList_append_sl rfl (.tmp 11) (.tmp 13) 30 rfl 3 i0 (.int .i64 0) 1 8 Tryz.underlying30 hi hz0 hz1 hz2 rfl (by decide) Sl.nil [] rfl (Own.nil _ _ _) wa W.length wc (ints W) rfl (by simp [ints]) N2.out (IW.out _ (B1.out.setCell (p := ⟨w.heap.size + 1 + 1, 0, none⟩) (by simp; omega) (.slice s1.a s1.n s1.c))) (ints_oneCell' W) M2.out Q2.out ?_; intro s2 w2 ow2 sn2 ch2 bl2; have B2 := hide (below_on (B1.out.setCell (p := ⟨w.heap.size + 1 + 1, 0, none⟩) (by simp; omega) (.slice s1.a s1.n s1.c)) (ch2.below (by simp [Sl.blk, Sl.nil]))); have A2 := hide ((A1.out.setOther (a := ⟨w.heap.size + 1 + 1, 0, none⟩) (by simp; omega) (.slice s1.a s1.n s1.c)).chg ch2 (by simp [Sl.blk, Sl.nil])); have Z2 := hide ((Z1.out.setOther (a := ⟨w.heap.size + 1 + 1, 0, none⟩) (by simp) (.slice s1.a s1.n s1.c)).chg ch2 (by simp [Sl.blk, Sl.nil])); have O2 := hide ((O1.out.set 0 (.slice s1.a s1.n s1.c)).chg ch2 (by simp [Sl.blk, Sl.nil])); have a20 := A2.out.cell' (i := 0) rfl; have a21 := A2.out.cell' (i := 1) rfl; have a22 := A2.out.cell' (i := 2) rfl; have o20 := O2.out.cell' (i := 0) rfl; have o21 := O2.out.cell' (i := 1) rfl; have o22 := O2.out.cell' (i := 2) rfl; have of2 := O2.out.frozen; have z20 := Z2.out.cell' (i := 0) rfl; have z21 := Z2.out.cell' (i := 1) rfl; have z22 := Z2.out.cell' (i := 2) rfl; have zf2 := Z2.out.frozen; have OW2 := hide ow2; have SN2 := hide sn2; have CH2 := hide ch2; have BL2 := hide bl2; clear ow2 sn2 ch2 bl2)
    | (at_builtin; refine wpList_append_sl rfl (.tmp 17) (.tmp 19) 31 rfl 114 j0 (.agg #[.int .i64 0, .int .i64 0, .int .i64 0, .int .i64 0]) 4 32 Tryz.underlying31 gi gz0 gz1 gz2 rfl (by decide) Sl.nil [] rfl (Own.nil _ _ _) ca C.length cc (insCells C) rfl (by simp [insCells_length]) N3.out (IC.out _ (B2.out.setCell (p := ⟨w.heap.size + 1 + 1, 1, none⟩) (by simp; omega) (.slice s2.a s2.n s2.c))) (insCells_oneCell C) M3.out Q3.out ?_; intro s3 w3 ow3 sn3 ch3 bl3; have B3 := hide (below_on (B2.out.setCell (p := ⟨w.heap.size + 1 + 1, 1, none⟩) (by simp; omega) (.slice s2.a s2.n s2.c)) (ch3.below (by simp [Sl.blk, Sl.nil]))); have A3 := hide ((A2.out.setOther (a := ⟨w.heap.size + 1 + 1, 1, none⟩) (by simp; omega) (.slice s2.a s2.n s2.c)).chg ch3 (by simp [Sl.blk, Sl.nil])); have Z3 := hide ((Z2.out.setOther (a := ⟨w.heap.size + 1 + 1, 1, none⟩) (by simp) (.slice s2.a s2.n s2.c)).chg ch3 (by simp [Sl.blk, Sl.nil])); have O3 := hide ((O2.out.set 1 (.slice s2.a s2.n s2.c)).chg ch3 (by simp [Sl.blk, Sl.nil])); have a30 := A3.out.cell' (i := 0) rfl; have a31 := A3.out.cell' (i := 1) rfl; have a32 := A3.out.cell' (i := 2) rfl; have o30 := O3.out.cell' (i := 0) rfl; have o31 := O3.out.cell' (i := 1) rfl; have o32 := O3.out.cell' (i := 2) rfl; have of3 := O3.out.frozen; have z30 := Z3.out.cell' (i := 0) rfl; have z31 := Z3.out.cell' (i := 1) rfl; have z32 := Z3.out.cell' (i := 2) rfl; have zf3 := Z3.out.frozen; have OW3 := hide ow3; have SN3 := hide sn3; have CH3 := hide ch3; have BL3 := hide bl3; clear ow3 sn3 ch3 bl3))
  have D3 : ∀ (wx : World) (a : Addr) (v : Value), (a.block = w.heap.size + 1 ∨ a.block = w.heap.size + 1 + 1) → Chg wx (wx.setCell a v) (fun k => k = w.heap.size + 1 ∨ k = w.heap.size + 1 + 1) := fun wx a v h => (Chg.setCell wx a v).mono (fun k _ hk => by rw [hk]; exact h)
  have ND : ∀ (wx wy : World), Chg wx wy (fun k => k ∈ Sl.nil.blk) → Chg wx wy (fun k => k = w.heap.size + 1 ∨ k = w.heap.size + 1 + 1) := fun wx wy h => h.mono (fun k _ hk => by simp [Sl.blk, Sl.nil] at hk)
  have e4 : Chg w3 _ (fun k => k = w.heap.size + 1 ∨ k = w.heap.size + 1 + 1) := ((D3 w3 ⟨w.heap.size + 1 + 1, 2, none⟩ (.slice s3.a s3.n s3.c) (Or.inr rfl)).trans (D3 _ ⟨w.heap.size + 1, 0, none⟩ (.slice s1.a s1.n s1.c) (Or.inl rfl))).trans ((D3 _ ⟨w.heap.size + 1, 1, none⟩ (.slice s2.a s2.n s2.c) (Or.inl rfl)).trans (D3 _ ⟨w.heap.size + 1, 2, none⟩ (.slice s3.a s3.n s3.c) (Or.inl rfl)))
  have e3 := ((D3 w2 ⟨w.heap.size + 1 + 1, 1, none⟩ (.slice s2.a s2.n s2.c) (Or.inr rfl)).trans (ND _ _ CH3.out)).trans e4
  have e2 := ((D3 w1 ⟨w.heap.size + 1 + 1, 0, none⟩ (.slice s1.a s1.n s1.c) (Or.inr rfl)).trans (ND _ _ CH2.out)).trans e3
  have l1 : ∀ k ∈ s1.blk, w.heap.size + 2 < k := fun k hk => by
    rcases BL1.out k hk with h | h
    · simp [Sl.blk, Sl.nil] at h
    · rw [h]; simp
  have q1 := B1.out.size
  have l2 : ∀ k ∈ s2.blk, w.heap.size + 2 < k := fun k hk => by
    rcases BL2.out k hk with h | h
    · simp [Sl.blk, Sl.nil] at h
    · have := O1.out.lt; rw [h]; simp [World.setCell]; omega
  have l3 : ∀ k ∈ s3.blk, w.heap.size + 2 < k := fun k hk => by
    rcases BL3.out k hk with h | h
    · simp [Sl.blk, Sl.nil] at h
    · have := O2.out.lt; rw [h]; simp [World.setCell]; omega
  have r1 := OW1.out.chg e2 (fun k hk => by have := l1 k hk; omega)
  have r2 := OW2.out.chg e3 (fun k hk => by have := l2 k hk; omega)
  have r3 := OW3.out.chg e4 (fun k hk => by have := l3 k hk; omega)
  have z5 := (((Z3.out.setOther (a := ⟨w.heap.size + 1 + 1, 2, none⟩) (by simp) (.slice s3.a s3.n s3.c)).set 0 (.slice s1.a s1.n s1.c)).set 1 (.slice s2.a s2.n s2.c)).set 2 (.slice s3.a s3.n s3.c)
  have b5 := B3.out.trans (e4.belowB (B := w.heap.size) (fun k hk => by omega) B3.out.size)
  clear e2 e3 e4 D3 ND
  generalize (((w3.setCell ⟨w.heap.size + 1 + 1, 2, none⟩ (.slice s3.a s3.n s3.c)).setCell ⟨w.heap.size + 1, 0, none⟩ (.slice s1.a s1.n s1.c)).setCell ⟨w.heap.size + 1, 1, none⟩ (.slice s2.a s2.n s2.c)).setCell ⟨w.heap.size + 1, 2, none⟩ (.slice s3.a s3.n s3.c) = w5 at *
  have y0 := z5.cell' (i := 0) rfl
  have y1 := z5.cell' (i := 1) rfl
  have y2 := z5.cell' (i := 2) rfl
  refine bodyPost_ret (v := .agg #[.slice s1.a s1.n s1.c, .slice s2.a s2.n s2.c, .slice s3.a s3.n s3.c]) (by simp [results, Tryz.results115, go_sem, y0, y1, y2]) rfl ⟨⟨s1, s2, s3⟩, rfl, ⟨r1, r2, r3, ?_, ?_, ?_⟩, ?_, b5⟩
  · rw [SN1.out]; simp [Sl.nil]
  · rw [SN2.out]; simp [Sl.nil]
  · rw [SN3.out]; simp [Sl.nil]
  · intro k hk
    simp only [TH.blks, List.mem_append] at hk
    rcases hk with h | h | h
    · have := l1 k h; omega
    · have := l2 k h; omega
    · have := l3 k h; omega

end Go.Proofs.YtlheloogmgmjnaaGreat

namespace Go.Proofs.YtlheloogmgmjnaaGreat
open Go.RowKit

set_option maxHeartbeats 1000000 in
set_option maxRecDepth 100000 in
theorem icopyI_any (ra : Option Addr) (rc : Nat) (R : List Int) (w : World) (ri : IntsAt w ra R) (hb : R.length * 8 ≤ 140737488351232) (hn : ra = none → R.length = 0 ∧ rc = 0) :
    Calls Tryz.prog 145 #[.slice ra R.length rc] w fun e w' => ∃ s : Sl, e = .returned (.slice s.a s.n s.c) ∧ Own w' 3 1 s (ints R) ∧ s.n = R.length ∧ (∀ k ∈ s.blk, w.heap.size ≤ k) ∧ Below w.heap.size w w' := by
  obtain ⟨i0, hi, hz0, hz1, hz2⟩ := info_parts Tryz.info3
  have IR := hide ri.src'
  have N1 := hide hn
  have M1 := hide (show Sl.nil.n + R.length ≤ maxLen by simp [Sl.nil]; unfold maxLen; omega)
  have Q1 := hide (show (Sl.nil.n + R.length) * 8 ≤ 140737488355328 by simp [Sl.nil]; omega)
  clear ri hn
  go_enter Tryz.func145, Tryz.ntmps145
  go_wp2_with (first
    | (at_builtin; refine wpList_append_sl rfl (.const (.slice none 0 0)) (.tmp 3) 30 rfl 3 i0 (.int .i64 0) 1 8 Tryz.underlying30 hi hz0 hz1 hz2 rfl (by decide) Sl.nil [] rfl (Own.nil _ _ _) ra R.length rc (ints R) rfl (by simp [ints]) N1.out IR.out (ints_oneCell' R) M1.out Q1.out ?_; intro s1 w1 ow1 sn1 ch1 bl1; have OW := hide ow1; have SN := hide sn1; have CH := hide ch1; have BL := hide bl1; clear ow1 sn1 ch1 bl1))
  go_ret
  refine ⟨s1, rfl, by have := OW.out; simpa using this, by rw [SN.out]; simp [Sl.nil], fun k hk => ?_, CH.out.below (by simp [Sl.blk, Sl.nil])⟩
  rcases BL.out k hk with h | h
  · simp [Sl.blk, Sl.nil] at h
  · rw [h]; exact Nat.le_refl _

set_option maxHeartbeats 1000000 in
set_option maxRecDepth 100000 in
theorem icopyX_any (ca : Option Addr) (cc : Nat) (C : List Ins) (w : World) (ci : InsAt w ca C) (hb : C.length * 32 ≤ 140737488351232) (hn : ca = none → C.length = 0 ∧ cc = 0) :
    Calls Tryz.prog 146 #[.slice ca C.length cc] w fun e w' => ∃ s : Sl, e = .returned (.slice s.a s.n s.c) ∧ Own w' 114 4 s (insCells C) ∧ s.n = C.length ∧ (∀ k ∈ s.blk, w.heap.size ≤ k) ∧ Below w.heap.size w w' := by
  obtain ⟨j0, gi, gz0, gz1, gz2⟩ := info_parts Tryz.info114
  have IC := hide ci.src'
  have N3 := hide hn
  have M3 := hide (show Sl.nil.n + C.length ≤ maxLen by simp [Sl.nil]; unfold maxLen; omega)
  have Q3 := hide (show (Sl.nil.n + C.length) * 32 ≤ 140737488355328 by simp [Sl.nil]; omega)
  clear ci hn
  go_enter Tryz.func146, Tryz.ntmps146
  go_wp2_with (first
    | (at_builtin; refine wpList_append_sl rfl (.const (.slice none 0 0)) (.tmp 3) 31 rfl 114 j0 (.agg #[.int .i64 0, .int .i64 0, .int .i64 0, .int .i64 0]) 4 32 Tryz.underlying31 gi gz0 gz1 gz2 rfl (by decide) Sl.nil [] rfl (Own.nil _ _ _) ca C.length cc (insCells C) rfl (by simp [insCells_length]) N3.out IC.out (insCells_oneCell C) M3.out Q3.out ?_; intro s1 w1 ow1 sn1 ch1 bl1; have OW := hide ow1; have SN := hide sn1; have CH := hide ch1; have BL := hide bl1; clear ow1 sn1 ch1 bl1))
  go_ret
  refine ⟨s1, rfl, by have := OW.out; simpa using this, by rw [SN.out]; simp [Sl.nil], fun k hk => ?_, CH.out.below (by simp [Sl.blk, Sl.nil])⟩
  rcases BL.out k hk with h | h
  · simp [Sl.blk, Sl.nil] at h
  · rw [h]; exact Nat.le_refl _

def zeroTxn : List Value := [.slice none 0 0, .slice none 0 0, .slice none 0 0]

theorem thRow_oneCell (a b c : Sl) : ∀ v ∈ ([.slice a.a a.n a.c, .slice b.a b.n b.c, .slice c.a c.n c.c] : List Value), v.oneCell' = true := by
  intro v hv
  simp only [List.mem_cons, List.not_mem_nil, or_false] at hv
  rcases hv with h | h | h <;> subst h <;> rfl

/-- The end of copyOf. -/
theorem copy_end {w W w3 w4 : World} {g : Nat} {R Ws : List Int} {C : List Ins} {s1 s2 s3 : Sl} (hg : w.heap.size ≤ g) (hg2 : g < W.heap.size) (hW : Below w.heap.size w W) (h3 : Below W.heap.size W w3)
    (o1 : Own w3 3 1 s1 (ints R)) (n1 : s1.n = R.length) (b1 : ∀ k ∈ s1.blk, W.heap.size ≤ k) (o2 : Own w3 3 1 s2 (ints Ws)) (n2 : s2.n = Ws.length) (b2 : ∀ k ∈ s2.blk, W.heap.size ≤ k)
    (o3 : Own w3 114 4 s3 (insCells C)) (n3 : s3.n = C.length) (b3 : ∀ k ∈ s3.blk, W.heap.size ≤ k) (hc : Chg w3 w4 (· = g)) :
    OwnTx w4 ⟨s1, s2, s3⟩ ⟨R, Ws, C⟩ ∧ (∀ k ∈ TH.blks ⟨s1, s2, s3⟩, w.heap.size ≤ k) ∧ Below w.heap.size w w4 := by
  have hs := hW.size
  refine ⟨⟨o1.chg hc (fun k hk => by have := b1 k hk; show ¬ k = g; omega), o2.chg hc (fun k hk => by have := b2 k hk; show ¬ k = g; omega), o3.chg hc (fun k hk => by have := b3 k hk; show ¬ k = g; omega), n1, n2, n3⟩, ?_, ?_⟩
  · intro k hk
    simp only [TH.blks, List.mem_append] at hk
    rcases hk with h | h | h
    · have := b1 k h; omega
    · have := b2 k h; omega
    · have := b3 k h; omega
  · exact (below_on hW h3).trans (hc.belowB (fun k hk => by omega) (below_on hW h3).size)

set_option maxHeartbeats 4000000 in
set_option maxRecDepth 100000 in
theorem icopyOf_any (h : TH) (t : Tx) (w : World) (hx : TxAt w h t) (hn : h.nilOk) :
    Calls Tryz.prog 105 #[.agg h.cells] w fun e w' => ∃ h' : TH, e = .returned (.agg h'.cells) ∧ OwnTx w' h' t ∧ (∀ k ∈ h'.blks, w.heap.size ≤ k) ∧ Below w.heap.size w w' := by
  obtain ⟨⟨ra, rn, rc⟩, ⟨wa, wn, wc⟩, ⟨ca, cn, cc⟩⟩ := h
  obtain ⟨R, Ws, C⟩ := t
  obtain ⟨rl, wl, cl, _, _, _, b4, b5, b6, ri, wi, ci⟩ := hx
  obtain ⟨n1, n2, n3⟩ := hn
  simp only at rl wl cl b4 b5 b6 ri wi ci n1 n2 n3
  subst rl wl cl
  have C1 := hide (fun wx (hb : Below w.heap.size w wx) => icopyI_any ra rc R wx (ri.below hb) (by omega) n1)
  have C2 := hide (fun wx (hb : Below w.heap.size w wx) => icopyI_any wa wc Ws wx (wi.below hb) (by omega) n2)
  have C3 := hide (fun wx (hb : Below w.heap.size w wx) => icopyX_any ca cc C wx (ci.below hb) (by omega) n3)
  clear ri wi ci n1 n2 n3 b4 b5 b6
  show Calls Tryz.prog 105 #[.agg #[.slice ra R.length rc, .slice wa Ws.length wc, .slice ca C.length cc]] w _
  have A0 := hide ((rowAt_alloc w [.slice ra R.length rc, .slice wa Ws.length wc, .slice ca C.length cc] 33).alloc (Obj.cells #[.slice none 0 0, .slice none 0 0, .slice none 0 0] 33))
  have Z0 := hide (rowAt_alloc (w.alloc (Obj.cells #[.slice ra R.length rc, .slice wa Ws.length wc, .slice ca C.length cc] 33)) zeroTxn 33)
  have B0 := hide (below_on (below_alloc1 w (Obj.cells #[.slice ra R.length rc, .slice wa Ws.length wc, .slice ca C.length cc] 33)) (below_alloc1 _ (Obj.cells #[.slice none 0 0, .slice none 0 0, .slice none 0 0] 33)))
  simp only [size_alloc_eq] at Z0
  go_enter Tryz.func105, Tryz.ntmps105
  go_wp2
  have hW2 : Hid (w.heap.size + 1 < ((w.alloc (Obj.cells #[.slice ra R.length rc, .slice wa Ws.length wc, .slice ca C.length cc] 33)).alloc (Obj.cells #[.slice none 0 0, .slice none 0 0, .slice none 0 0] 33)).heap.size) := hide (by simp)
  change Hid (RowAt ((w.alloc (Obj.cells #[.slice ra R.length rc, .slice wa Ws.length wc, .slice ca C.length cc] 33)).alloc (Obj.cells #[.slice none 0 0, .slice none 0 0, .slice none 0 0] 33)) (w.heap.size + 1) 33 zeroTxn) at Z0
  generalize (w.alloc (Obj.cells #[.slice ra R.length rc, .slice wa Ws.length wc, .slice ca C.length cc] 33)).alloc (Obj.cells #[.slice none 0 0, .slice none 0 0, .slice none 0 0] 33) = W at *
  have KL : Hid (∀ w', Below W.heap.size W w' → (w'.cell? ⟨w.heap.size, 0, none⟩ = some (.slice ra R.length rc) ∧ w'.cell? ⟨w.heap.size, 1, none⟩ = some (.slice wa Ws.length wc) ∧ w'.cell? ⟨w.heap.size, 2, none⟩ = some (.slice ca C.length cc))) := hide (fun w' hB =>
    ⟨(A0.out.below' hB).cell' (i := 0) rfl, (A0.out.below' hB).cell' (i := 1) rfl, (A0.out.below' hB).cell' (i := 2) rfl⟩)
  refine wp_region_held_drew (S := (fun w' => w'.cell? ⟨w.heap.size, 0, none⟩ = some (.slice ra R.length rc) ∧ w'.cell? ⟨w.heap.size, 1, none⟩ = some (.slice wa Ws.length wc) ∧ w'.cell? ⟨w.heap.size, 2, none⟩ = some (.slice ca C.length cc))) (by kernel_rfl) (KL.out _ (Below.refl _ _).drew) (fun hHeld => ?_)
  have D0 : Hid (Below W.heap.size W W.drew) := hide (Below.refl _ _).drew
  refine wpAnyH_take (i := 0) (v := ?_) rfl (by kernel_rfl) (by kernel_rfl) (by kernel_rfl) (fun _ _ _ h => h) (Or.inl ⟨by rfl, ?_⟩) (by assumption) ?_
  rotate_left
  · intro w hSw; (try dsimp only at hSw); (go_simp <;> with_reducible rfl)
  try simp only [List.getElem_toArray, List.getElem_cons_zero, Act.put, List.setIfInBounds_toArray, List.set_cons_zero, List.set_cons_succ]
  refine wpAnyH_take (i := 1) (v := ?_) rfl (by kernel_rfl) (by kernel_rfl) (by kernel_rfl) (fun _ _ _ h => h) (Or.inl ⟨by rfl, ?_⟩) (by assumption) ?_
  rotate_left
  · intro w hSw; (try dsimp only at hSw); (go_simp <;> with_reducible rfl)
  try simp only [List.getElem_toArray, List.getElem_cons_zero, List.getElem_cons_succ, Act.put, List.setIfInBounds_toArray, List.set_cons_zero, List.set_cons_succ]
  refine wpAnyH_take (i := 3) (v := ?_) rfl (by kernel_rfl) (by kernel_rfl) (by kernel_rfl) (fun _ _ _ h => h) (Or.inl ⟨by rfl, ?_⟩) (by assumption) ?_
  rotate_left
  · intro w hSw; (try dsimp only at hSw); (go_simp <;> with_reducible rfl)
  try simp only [List.getElem_toArray, List.getElem_cons_zero, List.getElem_cons_succ, Act.put, List.setIfInBounds_toArray, List.set_cons_zero, List.set_cons_succ]
  refine wpAnyH_take (i := 4) (v := ?_) rfl (by kernel_rfl) (by kernel_rfl) (by kernel_rfl) (fun _ _ _ h => h) (Or.inl ⟨by rfl, ?_⟩) (by assumption) ?_
  rotate_left
  · intro w hSw; (try dsimp only at hSw); (go_simp <;> with_reducible rfl)
  try simp only [List.getElem_toArray, List.getElem_cons_zero, List.getElem_cons_succ, Act.put, List.setIfInBounds_toArray, List.set_cons_zero, List.set_cons_succ]
  refine wpAnyH_take (i := 6) (v := ?_) rfl (by kernel_rfl) (by kernel_rfl) (by kernel_rfl) (fun _ _ _ h => h) (Or.inl ⟨by rfl, ?_⟩) (by assumption) ?_
  rotate_left
  · intro w hSw; (try dsimp only at hSw); (go_simp <;> with_reducible rfl)
  try simp only [List.getElem_toArray, List.getElem_cons_zero, List.getElem_cons_succ, Act.put, List.setIfInBounds_toArray, List.set_cons_zero, List.set_cons_succ]
  refine wpAnyH_take (i := 7) (v := ?_) rfl (by kernel_rfl) (by kernel_rfl) (by kernel_rfl) (fun _ _ _ h => h) (Or.inl ⟨by rfl, ?_⟩) (by assumption) ?_
  rotate_left
  · intro w hSw; (try dsimp only at hSw); (go_simp <;> with_reducible rfl)
  try simp only [List.getElem_toArray, List.getElem_cons_zero, List.getElem_cons_succ, Act.put, List.setIfInBounds_toArray, List.set_cons_zero, List.set_cons_succ]
  have KS : Hid (∀ wy w4, Below W.heap.size W wy → Chg wy w4 (· = w.heap.size + 1) → (w4.cell? ⟨w.heap.size, 0, none⟩ = some (.slice ra R.length rc) ∧ w4.cell? ⟨w.heap.size, 1, none⟩ = some (.slice wa Ws.length wc) ∧ w4.cell? ⟨w.heap.size, 2, none⟩ = some (.slice ca C.length cc))) := hide (fun wy w4 hB hC =>
    ⟨cell_chg hC (KL.out _ hB).1 (by show ¬ w.heap.size = w.heap.size + 1; omega), cell_chg hC (KL.out _ hB).2.1 (by show ¬ w.heap.size = w.heap.size + 1; omega), cell_chg hC (KL.out _ hB).2.2 (by show ¬ w.heap.size = w.heap.size + 1; omega)⟩)
  refine wpAnyH_ready (rs := [2]) (by kernel_rfl) (by simp) ?_
  refine AllReadyH.cons rfl (fun K hK => ?_) AllReadyH.nil
  · rw [if_pos (by rfl)]
    simp only [List.getElem_toArray, List.getElem_cons_zero, List.getElem_cons_succ]
    go_simp
    refine (C1.out _ (below_on B0.out D0.out)).mono ?_
    rintro e v1 ⟨s1, rfl, ho, hn, hp, hb⟩
    have O1 := hide ho; have N1 := hide hn; have E1 := hide hb; have P1 := hide (fun k (hk : k ∈ s1.blk) => Nat.le_trans D0.out.size (hp k hk)); have D1 := hide (below_on D0.out hb)
    clear ho hn hp hb
    refine hK.out _ _ (KL.out _ D1.out) (fun hHeld => ?_)
    clear hK K
    try simp only [List.getElem_toArray, List.getElem_cons_zero, List.getElem_cons_succ, Act.put, List.setIfInBounds_toArray, List.set_cons_zero, List.set_cons_succ]
    refine wpAnyH_ready (rs := [5]) (by kernel_rfl) (by simp) ?_
    refine AllReadyH.cons rfl (fun K hK => ?_) AllReadyH.nil
    · rw [if_pos (by rfl)]
      simp only [List.getElem_toArray, List.getElem_cons_zero, List.getElem_cons_succ]
      go_simp
      refine (C2.out _ (below_on B0.out D1.out)).mono ?_
      rintro e v2 ⟨s2, rfl, ho, hn, hp, hb⟩
      have O2 := hide ho; have N2 := hide hn; have E2 := hide hb; have P2 := hide (fun k (hk : k ∈ s2.blk) => Nat.le_trans D1.out.size (hp k hk)); have D2 := hide (below_on D1.out hb)
      clear ho hn hp hb
      refine hK.out _ _ (KL.out _ D2.out) (fun hHeld => ?_)
      clear hK K
      try simp only [List.getElem_toArray, List.getElem_cons_zero, List.getElem_cons_succ, Act.put, List.setIfInBounds_toArray, List.set_cons_zero, List.set_cons_succ]
      refine wpAnyH_ready (rs := [8]) (by kernel_rfl) (by simp) ?_
      refine AllReadyH.cons rfl (fun K hK => ?_) AllReadyH.nil
      · rw [if_pos (by rfl)]
        simp only [List.getElem_toArray, List.getElem_cons_zero, List.getElem_cons_succ]
        go_simp
        refine (C3.out _ (below_on B0.out D2.out)).mono ?_
        rintro e v3 ⟨s3, rfl, ho, hn, hp, hb⟩
        have O3 := hide ho; have N3 := hide hn; have E3 := hide hb; have P3 := hide (fun k (hk : k ∈ s3.blk) => Nat.le_trans D2.out.size (hp k hk)); have D3 := hide (below_on D2.out hb)
        clear ho hn hp hb
        refine hK.out _ _ (KL.out _ D3.out) (fun hHeld => ?_)
        clear hK K
        try simp only [List.getElem_toArray, List.getElem_cons_zero, List.getElem_cons_succ, Act.put, List.setIfInBounds_toArray, List.set_cons_zero, List.set_cons_succ]
        refine wpAnyH_take (i := 9) (v := ?_) rfl (by kernel_rfl) (by kernel_rfl) (by kernel_rfl) (fun _ _ _ h => h) (Or.inl ⟨by rfl, ?_⟩) (by assumption) ?_
        rotate_left
        · intro w hSw; (try dsimp only at hSw); (go_simp <;> with_reducible rfl)
        try simp only [List.getElem_toArray, List.getElem_cons_zero, List.getElem_cons_succ, Act.put, List.setIfInBounds_toArray, List.set_cons_zero, List.set_cons_succ]
        refine wpAnyH_ready (rs := [10]) (by kernel_rfl) (by simp) ?_
        refine AllReadyH.cons rfl (fun K hK => ?_) AllReadyH.nil
        rw [if_pos (by rfl)]
        simp only [List.getElem_toArray, List.getElem_cons_zero, List.getElem_cons_succ]
        refine wp_store_row 33 (.tmp 2) (.tmp 12) rfl (w.heap.size + 1) rfl [.slice s1.a s1.n s1.c, .slice s2.a s2.n s2.c, .slice s3.a s3.n s3.c] zeroTxn 33 (Z0.out.below' D3.out) rfl rfl (by kernel_rfl) (thRow_oneCell s1 s2 s3) ?_
        intro w4 r4 c4 z4
        have EN := hide (copy_end (w := w) (W := W) (g := w.heap.size + 1) (by omega) hW2.out B0.out D3.out ((O1.out.below E2.out).below E3.out) N1.out P1.out (O2.out.below E3.out) N2.out P2.out O3.out N3.out P3.out c4)
        refine hK.out _ _ (KS.out _ _ D3.out c4) (fun hHeld => ?_)
        refine wpAnyH_done (by kernel_rfl) ?_ _
        simp only [Act.put]
        have y0 := r4.cell' (i := 0) rfl
        have y1 := r4.cell' (i := 1) rfl
        have y2 := r4.cell' (i := 2) rfl
        clear hK hHeld
        go_wp2
        exact bodyPost_ret (v := .agg #[.slice s1.a s1.n s1.c, .slice s2.a s2.n s2.c, .slice s3.a s3.n s3.c]) (by simp [results, Tryz.results105, go_sem, y0, y1, y2]) rfl ⟨⟨s1, s2, s3⟩, rfl, EN.out⟩

end Go.Proofs.YtlheloogmgmjnaaGreat

namespace Go.Proofs.YtlheloogmgmjnaaGreat
open Go.RowKit

theorem Tryz.info172 : (Tryz.prog.info? 172).map (fun i => (i.zero, i.size, i.bytes)) = some (some (.agg #[.int .i64 0, .bool false]), 2, 16) := by kernel_rfl
theorem Tryz.size172 : (Tryz.prog.info? 172).map (·.size) = some 2 := by kernel_rfl
theorem Tryz.info4 : (Tryz.prog.info? 4).map (fun i => (i.zero, i.size, i.bytes)) = some (some (.bool false), 1, 1) := by kernel_rfl

theorem made_slot (n : Nat) : (madeCells (Value.agg #[.int .i64 0, .bool false]).cells (n * 2)).toList = slotCells (List.replicate n Slot.none) := by
  apply List.ext_getElem?
  intro i
  by_cases hi : i < n * 2
  · obtain ⟨c0, c1⟩ := slotCells_get (List.replicate n Slot.none) (i / 2) (by simp; omega)
    have e : (List.replicate n Slot.none).getD (i / 2) Slot.none = Slot.none := by
      simp [List.getD, List.getElem?_replicate]; split <;> rfl
    rw [e] at c0 c1
    have hm : i = i / 2 * 2 ∨ i = i / 2 * 2 + 1 := by omega
    rcases hm with h | h
    · rw [← h] at c0; rw [c0]
      have h2 : i % 2 = 0 := by omega
      simp [madeCells, Value.cells, hi, h2, Slot.none]
    · rw [← h] at c1; rw [c1]
      have h2 : i % 2 = 1 := by omega
      simp [madeCells, Value.cells, hi, h2, Slot.none]
  · rw [List.getElem?_eq_none (by simp [madeCells]; omega), List.getElem?_eq_none (by rw [slotCells_length]; simp; omega)]

theorem made_bool (n : Nat) : (madeCells (Value.bool false).cells (n * 1)).toList = bools (List.replicate n false) := by
  rw [Nat.mul_one]; show (madeCells #[.bool false] n).toList = _; rw [toList_madeCells_one]; simp [bools]

theorem made_ints (n : Nat) : (madeCells (Value.int IntKind.i64 0).cells (n * 1)).toList = ints (List.replicate n 0) := by
  rw [made_int]; simp [ints]

/-- The keys' slots ahead, k of them laid. -/
def befTo (t : Tx) (hv : List Slot) (k : Nat) : List Slot := (befOf t hv).take k ++ List.replicate (t.w.length - k) Slot.none
theorem befTo_len (t : Tx) (hv : List Slot) (k : Nat) (hk : k ≤ t.w.length) : (befTo t hv k).length = t.w.length := by simp [befTo, befOf]; omega
theorem befTo_set (t : Tx) (hv : List Slot) (k : Nat) (hk : k < t.w.length) : (befTo t hv k).set k (hv.getD (t.w.getD k 0).toNat Slot.none) = befTo t hv (k + 1) := by
  have hl : ((befOf t hv).take k).length = k := by simp [befOf]; omega
  obtain ⟨m, hm⟩ : ∃ m, t.w.length - k = m + 1 := ⟨t.w.length - k - 1, by omega⟩
  have hb : k < (befOf t hv).length := by simp [befOf]; exact hk
  unfold befTo
  rw [List.set_append_right _ _ (by omega), hl, Nat.sub_self, hm, List.replicate_succ, List.set_cons_zero, List.take_succ_eq_append_getElem hb, show t.w.length - (k + 1) = m by omega]
  simp [befOf, List.getD, hk]
theorem befTo_end (t : Tx) (hv : List Slot) : befTo t hv t.w.length = befOf t hv := by
  simp only [befTo, Nat.sub_self, List.replicate_zero, List.append_nil]; rw [List.take_of_length_le (by simp [befOf])]

/-- Where Go stands ahead of an instruction. -/
structure GoInv (w wr : World) (t : Tx) (hv : List Slot) (hd : List Value) (gb go gs gc : Nat) (pc : Nat) (reg : List Int) (out : List Slot) (did : List Nat) (said : List Bool) (sd : Sl) : Prop where
  H : RowAt wr w.heap.size 33 hd
  R : RowAt wr (w.heap.size + 1) 168 [.slice none 0 0, .bool false, .int .i64 0, .slice none 0 0, .slice none 0 0]
  Gr : RowAt wr (w.heap.size + 1 + 1) 3 (ints reg)
  Gb : RowAt wr gb 172 (slotCells (befOf t hv))
  Go : RowAt wr go 172 (slotCells out)
  Gs : RowAt wr gs 4 (bools said)
  Gc : RowAt wr gc 168 [.slice sd.a sd.n sd.c, .bool false, .int .i64 0, .slice none 0 0, .slice (some ⟨gs, 0, none⟩) t.w.length t.w.length]
  Sd : Own wr 3 1 sd (ints (nats did))
  sdn : sd.n = did.length
  sdb : ∀ k ∈ sd.blk, gc < k
  B : Below w.heap.size w wr
  reg6 : reg.length = 6
  outn : out.length = t.w.length
  saidn : said.length = t.w.length
  didle : did.length ≤ pc
  pcle : pc ≤ 61
  crs : goAt t hv (befOf t hv) pc reg out did said = goCrs t hv

set_option maxHeartbeats 4000000 in
set_option maxRecDepth 100000 in
theorem rGo_any (h : TH) (t : Tx) (hv : List Slot) (ha : Option Addr) (hc : Nat) (w : World) (hx : TxAt w h t) (hchk : checkN t = 0) (hV : SlotsAt w ha hv) (hVl : hv.length = 24) :
    Calls Tryz.prog 116 #[.agg h.cells, .slice ha 24 hc] w fun e w' => ∃ sd sw ss : Sl, e = .returned (.agg #[.slice sd.a sd.n sd.c, .bool (goCrs t hv).ab, .int .i64 (goCrs t hv).out, .slice sw.a sw.n sw.c, .slice ss.a ss.n ss.c]) ∧
      IntsAt w' sd.a (nats (goCrs t hv).did) ∧ sd.n = (goCrs t hv).did.length ∧ SlotsAt w' sw.a (goCrs t hv).ws ∧ sw.n = (goCrs t hv).ws.length ∧ BoolsAt w' ss.a (goCrs t hv).said ∧ ss.n = (goCrs t hv).said.length ∧
      (∀ k ∈ sd.blk ++ (sw.blk ++ ss.blk), w.heap.size ≤ k ∧ k < w'.heap.size) ∧ Below w.heap.size w w' := by
  obtain ⟨i0, hi, hz0, hz1, hz2⟩ := info_parts Tryz.info3
  obtain ⟨j0, gi, gz0, gz1, gz2⟩ := info_parts Tryz.info172
  obtain ⟨k0, bi, bz0, bz1, bz2⟩ := info_parts Tryz.info4
  obtain ⟨c30, r6, w6, hkr, hkw, hsnd⟩ := checkN_sound t hchk
  clear hchk
  have hrl := hx.rl; have hwl := hx.wl; have hcl := hx.cl
  have HX := hide (fun wx (hb : Below w.heap.size w wx) => hx.below hb)
  have HV := hide hV
  clear hx hV
  obtain ⟨⟨ra, rn, rc⟩, ⟨wa, wn, wc⟩, ⟨ca, cn, cc⟩⟩ := h
  simp only at hrl hwl hcl
  subst hrl hwl hcl
  have hnr : t.w.length ≤ maxLen := by unfold maxLen; omega
  have M6 := hide (show i0.bytes * 6 ≤ 281474976710656 by rw [hz2]; omega)
  have N6 := hide (show 6 ≤ maxLen by unfold maxLen; omega)
  have MS := hide (show j0.bytes * t.w.length ≤ 281474976710656 by rw [gz2]; omega)
  have MB := hide (show k0.bytes * t.w.length ≤ 281474976710656 by rw [bz2]; omega)
  have NS := hide hnr
  clear hnr
  show Calls Tryz.prog 116 #[.agg #[.slice ra t.r.length rc, .slice wa t.w.length wc, .slice ca t.c.length cc], .slice ha 24 hc] w _
  have H0 := hide ((rowAt_alloc w [.slice ra t.r.length rc, .slice wa t.w.length wc, .slice ca t.c.length cc] 33).alloc (Obj.cells #[.slice none 0 0, .bool false, .int .i64 0, .slice none 0 0, .slice none 0 0] 168))
  have R0 := hide (rowAt_alloc (w.alloc (Obj.cells #[.slice ra t.r.length rc, .slice wa t.w.length wc, .slice ca t.c.length cc] 33)) [.slice none 0 0, .bool false, .int .i64 0, .slice none 0 0, .slice none 0 0] 168)
  have B0 := hide (below_on (below_alloc1 w (Obj.cells #[.slice ra t.r.length rc, .slice wa t.w.length wc, .slice ca t.c.length cc] 33)) (below_alloc1 _ (Obj.cells #[.slice none 0 0, .bool false, .int .i64 0, .slice none 0 0, .slice none 0 0] 168)))
  simp only [size_alloc_eq] at R0
  go_enter Tryz.func116, Tryz.ntmps116
  go_wp2_with (first
    | (at_make; refine wpList_make_rowAt _ rfl (.const (.int .i64 6)) (.const (.int .i64 6)) 30 rfl 3 i0 (.int .i64 0) 1 Tryz.underlying30 hi hz0 hz1 .i64 .i64 _ _ 6 rfl rfl (by rfl) (by rfl) M6.out N6.out ?_; intro w1 hr1 hb1; rw [made_ints] at hr1; have G1 := hide hr1; have B1 := hide (below_on B0.out hb1); have H1 := hide (H0.out.below' hb1); have R1 := hide (R0.out.below' hb1); have h1 := H1.out.cell' (i := 1) rfl; clear hr1 hb1)
    | (at_make; refine wpList_make_rowAt _ rfl (.tmp 15) (.tmp 15) 40 rfl 172 j0 (.agg #[.int .i64 0, .bool false]) 2 Tryz.underlying40 gi gz0 gz1 .i64 .i64 _ _ t.w.length rfl rfl (by rfl) (by rfl) MS.out NS.out ?_; intro w2 hr2 hb2; rw [made_slot] at hr2; have G2 := hide hr2; have B2 := hide (below_on B1.out hb2); have H2 := hide (H1.out.below' hb2); have R2 := hide (R1.out.below' hb2); have G12 := hide (G1.out.below' hb2); have h2 := H2.out.cell' (i := 1) rfl; clear hr2 hb2))
  simp only [size_alloc_eq] at G12
  have gb2 := G1.out.lt
  simp only [size_alloc_eq] at gb2
  obtain ⟨gb, hgb⟩ : ∃ gb, gb = w1.heap.size := ⟨_, rfl⟩
  rw [← hgb] at G2 gb2 ⊢
  clear hgb h1 h2 H0 R0 B0 H1 R1 G1 B1 M6 N6
  go_loopw [7] (fun tt wr => ∃ k : Nat, k ≤ t.w.length ∧ tt = .int .i64 k ∧ RowAt wr gb 172 (slotCells (befTo t hv k)) ∧ Chg w2 wr (· = gb)) (fun tt _ => t.w.length - (intOf tt).toNat)
  case atStart => exact ⟨0, Nat.zero_le _, rfl, by simpa [befTo] using G2.out, Chg.refl _ _⟩
  case round =>
    obtain ⟨k, hk, rfl, hg, hch⟩ := hrel
    have H3 := hide (H2.out.chg hch (by omega))
    have R3 := hide (R2.out.chg hch (by omega))
    have G13 := hide (G12.out.chg hch (by omega))
    have B3 := hide (B2.out.trans (hch.belowB (B := w.heap.size) (fun k hk => by omega) B2.out.size))
    have h3 := H3.out.cell' (i := 1) rfl
    by_cases hlt : k < t.w.length
    · obtain ⟨b1, o1, hwa, hc1, _⟩ := (HX.out wr B3.out).wi.at hlt
      replace hc1 := hc1 k hlt
      simp only at hwa
      obtain ⟨n, hn⟩ : ∃ n : Nat, t.w.getD k 0 = n := ⟨_, (Int.toNat_of_nonneg (hkw (t.w.getD k 0) (by simp [List.getD, hlt])).1).symm⟩
      have hn24 : n < 24 := by have := hkw (t.w.getD k 0) (by simp [List.getD, hlt]); omega
      obtain ⟨b2, o2, hha, hc2, _⟩ := (HV.out.below B3.out).at (k := n) (by omega)
      obtain ⟨s0, s1⟩ := hc2 n (by omega)
      obtain ⟨t0, t1⟩ := slotCells_get (befTo t hv k) k (by rw [befTo_len t hv k hk]; exact hlt)
      have hset := befTo_set t hv k hlt
      rw [hn] at hc1 hset
      simp only [Int.toNat_natCast] at hset
      generalize hv.getD n Slot.none = sl at *
      obtain ⟨sv, sth⟩ := sl
      simp only at s0 s1
      replace t0 := hg.cell' t0
      replace t1 := hg.cell' t1
      have tf0 := hg.frozen (k * 2)
      have tf1 := hg.frozen (k * 2 + 1)
      have hgn := (hg.set (k * 2) (.int .i64 sv)).set (k * 2 + 1) (.bool sth)
      rw [slotCells_set (befTo t hv k) ⟨sv, sth⟩ k (by rw [befTo_len t hv k hk]; exact hlt), hset] at hgn
      have HG := hide hgn
      rw [hwa] at h3
      subst hha
      have hgbl := hg.lt
      clear hgn hset hg hc2
      clear HX HV hsnd hkr hkw hn
      go_wp2
      go_roundw
      case rel => exact ⟨k + 1, by omega, by go_num, HG.out, hch.trans ((Chg.setCell wr ⟨gb, k * 2, none⟩ _).trans (Chg.setCell _ ⟨gb, k * 2 + 1, none⟩ _))⟩
      case measure => simp [intOf]; omega
    · have hkk : k = t.w.length := by omega
      subst hkk
      rw [befTo_end] at hg
      have G23 := hide hg
      have hgbl := hg.lt
      clear hg hch H2 R2 B2 G12 G2 hlt
      go_wp2_with (first
        | (at_make; refine wpList_make_rowAt _ rfl (.tmp 36) (.tmp 36) 40 rfl 172 j0 (.agg #[.int .i64 0, .bool false]) 2 Tryz.underlying40 gi gz0 gz1 .i64 .i64 _ _ t.w.length rfl rfl (by rfl) (by rfl) MS.out NS.out ?_; intro w4 hr4 hb4; rw [made_slot] at hr4))
      obtain ⟨w5, hrun, hr5, hb5⟩ := run_copy_ex (P := Tryz.prog) w4 40 40 3 172 2 Tryz.underlying40 Tryz.size172 (some ⟨wr.heap.size, 0, none⟩) (some ⟨gb, 0, none⟩) t.w.length t.w.length t.w.length t.w.length wr.heap.size _ 172 hr4 (slotCells (befOf t hv))
        (by rw [slotCells_length]; simp [befOf]) (by decide) (fun _ => ⟨rfl, _, rfl, fun j v hv' => by rw [addr_add, Nat.zero_add]; exact (G23.out.below' hb4).cell' hv'⟩) (by rw [slotCells_length, slotCells_length]; simp [befOf]) (slotCells_oneCell _) wr.heap.size wr hb4 (Nat.le_refl _)
      rw [hrun]
      rw [List.drop_eq_nil_of_le (by rw [slotCells_length, slotCells_length]; simp [befOf]), List.append_nil] at hr5
      have H5 := hide (H3.out.below' hb5)
      have R5 := hide (R3.out.below' hb5)
      have G15 := hide (G13.out.below' hb5)
      have G25 := hide (G23.out.below' hb5)
      have G35 := hide hr5
      have B5 := hide (below_on B3.out hb5)
      have h5 := H5.out.cell' (i := 1) rfl
      clear hrun hr4 hb4 hr5 hb5 H3 R3 G13 G23 B3 h3
      obtain ⟨go, hgo⟩ : ∃ go, go = wr.heap.size := ⟨_, rfl⟩
      rw [← hgo] at G35 hgbl ⊢
      clear hgo
      go_wp2_with (first
        | (at_make; refine wpList_make_rowAt _ rfl (.tmp 43) (.tmp 43) 60 rfl 4 k0 (.bool false) 1 Tryz.underlying60 bi bz0 bz1 .i64 .i64 _ _ t.w.length rfl rfl (by rfl) (by rfl) MB.out NS.out ?_; intro w6 hr6 hb6; rw [made_bool] at hr6))
      have H6 := hide (H5.out.below' hb6)
      have R6 := hide (R5.out.below' hb6)
      have G16 := hide (G15.out.below' hb6)
      have G26 := hide (G25.out.below' hb6)
      have G36 := hide (G35.out.below' hb6)
      have G46 := hide hr6
      have B6 := hide (below_on B5.out hb6)
      have hgol := G35.out.lt
      have hgsl := hr6.lt
      clear hr6 hb6 H5 R5 G15 G25 G35 B5 h5
      obtain ⟨gs, hgs⟩ : ∃ gs, gs = w5.heap.size := ⟨_, rfl⟩
      rw [← hgs] at G46 hgol hgsl ⊢
      clear hgs
      have C7 := hide (rowAt_alloc w6 [.slice none 0 0, .bool false, .int .i64 0, .slice none 0 0, .slice (some ⟨gs, 0, none⟩) t.w.length t.w.length] 168)
      have H7 := hide (H6.out.alloc (.cells #[.slice none 0 0, .bool false, .int .i64 0, .slice none 0 0, .slice (some ⟨gs, 0, none⟩) t.w.length t.w.length] 168))
      have R7 := hide (R6.out.alloc (.cells #[.slice none 0 0, .bool false, .int .i64 0, .slice none 0 0, .slice (some ⟨gs, 0, none⟩) t.w.length t.w.length] 168))
      have G17 := hide (G16.out.alloc (.cells #[.slice none 0 0, .bool false, .int .i64 0, .slice none 0 0, .slice (some ⟨gs, 0, none⟩) t.w.length t.w.length] 168))
      have G27 := hide (G26.out.alloc (.cells #[.slice none 0 0, .bool false, .int .i64 0, .slice none 0 0, .slice (some ⟨gs, 0, none⟩) t.w.length t.w.length] 168))
      have G37 := hide (G36.out.alloc (.cells #[.slice none 0 0, .bool false, .int .i64 0, .slice none 0 0, .slice (some ⟨gs, 0, none⟩) t.w.length t.w.length] 168))
      have G47 := hide (G46.out.alloc (.cells #[.slice none 0 0, .bool false, .int .i64 0, .slice none 0 0, .slice (some ⟨gs, 0, none⟩) t.w.length t.w.length] 168))
      have B7 := hide (below_on B6.out (below_alloc1 w6 (.cells #[.slice none 0 0, .bool false, .int .i64 0, .slice none 0 0, .slice (some ⟨gs, 0, none⟩) t.w.length t.w.length] 168)))
      clear H6 R6 G16 G26 G36 G46 B6
      obtain ⟨gc, hgc⟩ : ∃ gc, gc = w6.heap.size := ⟨_, rfl⟩
      rw [← hgc] at C7 hgsl ⊢
      generalize w6.alloc (.cells #[.slice none 0 0, .bool false, .int .i64 0, .slice none 0 0, .slice (some ⟨gs, 0, none⟩) t.w.length t.w.length] 168) = w7 at *
      clear hgc
      go_loopw [10] (fun tt wx => ∃ (pc : Nat) (reg : List Int) (out : List Slot) (did : List Nat) (said : List Bool) (sd : Sl), tt = .int .i64 pc ∧ GoInv w wx t hv [.slice ra t.r.length rc, .slice wa t.w.length wc, .slice ca t.c.length cc] gb go gs gc pc reg out did said sd) (fun tt _ => 62 - (intOf tt).toNat)
      case atStart => exact ⟨0, List.replicate 6 0, befOf t hv, [], List.replicate t.w.length false, Sl.nil, rfl, ⟨H7.out, R7.out, G17.out, G27.out, G37.out, G47.out, C7.out, Own.nil _ _ _, rfl, by simp [Sl.blk, Sl.nil], B7.out, by simp, by simp [befOf], by simp, Nat.le_refl _, by omega, rfl⟩⟩
      case round =>
        obtain ⟨pc, reg, out, did, said, sd, rfl, I⟩ := hrel
        have hh2 := I.H.cell' (i := 2) rfl
        have hpc61 := I.pcle
        by_cases hlt : pc < t.c.length
        · have hsx := hsnd (t.c.getD pc Ins.zero) (by simp [List.getD, hlt])
          obtain ⟨b1, o1, hca, hci, _⟩ := (HX.out wr I.B).ci.at hlt
          simp only at hca
          subst hca
          replace hci := hci pc hlt
          have hgcl := I.Gc.lt
          have hAb := goAt_abort (hv := hv) (bef := befOf t hv) (reg := reg) (out := out) (did := did) (said := said) hlt
          have hNx := goAt_next (hv := hv) (bef := befOf t hv) (reg := reg) (out := out) (did := did) (said := said) hlt
          rw [I.crs] at hAb hNx
          have HO := hide (fun (wx : World) (hb : Below w.heap.size w wx) => one_any (t.c.getD pc Ins.zero) ⟨⟨ra, t.r.length, rc⟩, ⟨wa, t.w.length, wc⟩, ⟨some ⟨b1, o1, none⟩, t.c.length, cc⟩⟩ t hv ha hc (w.heap.size + 1 + 1) go t.w.length reg out wx hsx I.reg6 I.outn)
          obtain ⟨x1, x11, xA, xB, xC, xL, xS, xP⟩ := soundB_cases hsx
          generalize t.c.getD pc Ins.zero = y at *
          obtain ⟨op, a, b, c⟩ := y
          obtain ⟨k0', k1', k2', k3'⟩ := hci
          simp only at k0' k1' k2' k3' x1 x11 xA xB xC xL xS xP hAb hNx
          have HAb := hide hAb; have HNx := hide hNx
          have P1 := hide (rowAt_alloc (wr.alloc (.cells #[.int .i64 op, .int .i64 a, .int .i64 b, .int .i64 c] 114)) [.int .i64 pc] 3)
          simp only [size_alloc_eq] at P1
          have X1 := hide ((rowAt_alloc wr [.int .i64 op, .int .i64 a, .int .i64 b, .int .i64 c] 114).alloc (.cells #[.int .i64 pc] 3))
          have S1 := hide (I.Sd.below (below_on (below_alloc1 wr (.cells #[.int .i64 op, .int .i64 a, .int .i64 b, .int .i64 c] 114)) (below_alloc1 _ (.cells #[.int .i64 pc] 3))))
          have MM := hide (show sd.n + 1 ≤ maxLen by have := I.sdn; have := I.didle; unfold maxLen; omega)
          have QQ := hide (show (sd.n + 1) * 8 ≤ 140737488355328 by have := I.sdn; have := I.didle; omega)
          have II := hide I
          have gc0 := I.Gc.cell' (i := 0) rfl
          have ndb : ∀ g, g ≤ gc → g ∉ sd.blk := fun g hg hk => by have := I.sdb g hk; omega
          have ndx : wr.heap.size ∉ sd.blk := fun hk => by have := I.Sd.blk_lt _ hk; omega
          have NDB := hide ndb; have NDX := hide ndx
          simp only [TH.cells, Ins.val] at HO
          rw [I.outn] at HO
          clear I hAb hNx hsx ndb ndx
          by_cases h11 : op = 11
          · subst h11
            obtain ⟨z, hz⟩ : ∃ z, z = reg.getD 0 0 := ⟨_, rfl⟩
            have HZ := hide hz.symm
            clear hz
            clear HX HV hsnd hkr hkw H7 R7 G17 G27 G37 G47 C7 B7
            go_wp2_with (first
              | (at_builtin; go_must (refine wpList_append_sl rfl (.tmp 59) (.tmp 61) 30 rfl 3 i0 (.int .i64 0) 1 8 Tryz.underlying30 hi hz0 hz1 hz2 rfl (by decide) sd (ints (nats did)) rfl S1.out (some ⟨wr.heap.size + 1, 0, none⟩) 1 1 [.int .i64 pc] rfl rfl (by simp) (fun ad had j u hu => by cases had; rw [addr_add, Nat.zero_add]; exact P1.out.cell' hu) (by simp [Value.oneCell']) MM.out QQ.out ?_; intro sd' w8 ow8 sn8 ch8 bl8; have X8 := hide (X1.out.chg ch8 NDX.out); have C8 := hide (((II.out.Gc.alloc _).alloc _).chg ch8 (NDB.out _ (Nat.le_refl _))); have H8 := hide (((II.out.H.alloc _).alloc _).chg ch8 (NDB.out _ (by omega))); have R8 := hide (((II.out.R.alloc _).alloc _).chg ch8 (NDB.out _ (by omega))); have Gr8 := hide (((II.out.Gr.alloc _).alloc _).chg ch8 (NDB.out _ (by omega))); have Gb8 := hide (((II.out.Gb.alloc _).alloc _).chg ch8 (NDB.out _ (by omega))); have Go8 := hide (((II.out.Go.alloc _).alloc _).chg ch8 (NDB.out _ (by omega))); have Gs8 := hide (((II.out.Gs.alloc _).alloc _).chg ch8 (NDB.out _ (by omega))); have B8 := hide (II.out.B.trans ((below_on (below_alloc1 wr (.cells #[.int .i64 11, .int .i64 a, .int .i64 b, .int .i64 c] 114)) (below_alloc1 _ (.cells #[.int .i64 pc] 3))).mono II.out.B.size |>.trans (ch8.belowB (B := w.heap.size) (fun k hk => by have := II.out.sdb k hk; omega) (Nat.le_trans II.out.B.size (by simp; omega))))); have OW8 := hide ow8; have SN8 := hide sn8; have SB8 : Hid (∀ k ∈ sd'.blk, gc < k) := (fun k hk => (bl8 k hk).elim (fun h => II.out.sdb k h) (fun h => by rw [h, size_alloc_eq, size_alloc_eq]; omega)); have hs8 := ch8.size; simp only [size_alloc_eq] at hs8; clear ow8 sn8 ch8 bl8; have x0 := X8.out.cell' (i := 0) rfl; have c0 := C8.out.cell' (i := 0) rfl; have c1 := C8.out.cell' (i := 1) rfl; have c2 := C8.out.cell' (i := 2) rfl; have c3 := C8.out.cell' (i := 3) rfl; have c4 := C8.out.cell' (i := 4) rfl; have cf := C8.out.frozen; have r0 := Gr8.out.cell' (ints_getD reg 0 (by rw [II.out.reg6]; omega)); rw [HZ.out] at r0; have hd1 := H8.out.cell' (i := 1) rfl))
              | (at_make; go_must (refine wpList_make_rowAt _ rfl (.tmp 76) (.tmp 76) 60 rfl 4 k0 (.bool false) 1 Tryz.underlying60 bi bz0 bz1 .i64 .i64 _ _ t.w.length rfl rfl (by rfl) (by rfl) MB.out NS.out ?_; intro w9 hr9 hb9; rw [made_bool] at hr9; simp only [size_setCell_eq] at hr9; have E9 := hide ((((((Chg.refl w8 (· = gc)).put ⟨gc, 0, none⟩ (.slice sd'.a sd'.n sd'.c) rfl).put ⟨gc, 1, none⟩ (.bool true) rfl).put ⟨gc, 2, none⟩ (.int .i64 z) rfl).put ⟨gc, 3, none⟩ (.slice (some ⟨gb, 0, none⟩) t.w.length t.w.length) rfl)); have C9 := hide (((((C8.out.set 0 (.slice sd'.a sd'.n sd'.c)).set 1 (.bool true)).set 2 (.int .i64 z)).set 3 (.slice (some ⟨gb, 0, none⟩) t.w.length t.w.length)).below' hb9); have R9 := hide ((R8.out.chg E9.out (by omega)).below' hb9); have Gb9 := hide ((Gb8.out.chg E9.out (by omega)).below' hb9); have OW9 := hide ((OW8.out.chg E9.out (fun k hk => by have := SB8.out k hk; omega)).below hb9); have B9 := hide ((B8.out.trans (E9.out.belowB (B := w.heap.size) (fun k hk => by omega) B8.out.size)).trans (hb9.mono (by simp only [size_setCell_eq]; exact B8.out.size))); have S9 := hide hr9; have hs9 := S9.out.lt; have d0 := C9.out.cell' (i := 0) rfl; have d1 := C9.out.cell' (i := 1) rfl; have d2 := C9.out.cell' (i := 2) rfl; have d3 := C9.out.cell' (i := 3) rfl; have d4 := C9.out.cell' (i := 4) rfl; have df := C9.out.frozen; have R90 := R9.out.cell' (i := 0) rfl; have R91 := R9.out.cell' (i := 1) rfl; have R92 := R9.out.cell' (i := 2) rfl; have R93 := R9.out.cell' (i := 3) rfl; have R94 := R9.out.cell' (i := 4) rfl; have Rf9 := R9.out.frozen; clear hr9 hb9)))
            have I := II.out
            have e8 := (((((((Chg.refl w9 (fun k => k = gc ∨ k = w.heap.size + 1)).put ⟨gc, 4, none⟩ (.slice (some ⟨w8.heap.size, 0, none⟩) t.w.length t.w.length) (Or.inl rfl)).put ⟨w.heap.size + 1, 0, none⟩ (.slice sd'.a sd'.n sd'.c) (Or.inr rfl)).put ⟨w.heap.size + 1, 1, none⟩ (.bool true) (Or.inr rfl)).put ⟨w.heap.size + 1, 2, none⟩ (.int .i64 z) (Or.inr rfl)).put ⟨w.heap.size + 1, 3, none⟩ (.slice (some ⟨gb, 0, none⟩) t.w.length t.w.length) (Or.inr rfl)).put ⟨w.heap.size + 1, 4, none⟩ (.slice (some ⟨w8.heap.size, 0, none⟩) t.w.length t.w.length) (Or.inr rfl))
            have z8 := ((((((R9.out.setOther (a := ⟨gc, 4, none⟩) (by simp; omega) (.slice (some ⟨w8.heap.size, 0, none⟩) t.w.length t.w.length)).set 0 (.slice sd'.a sd'.n sd'.c)).set 1 (.bool true)).set 2 (.int .i64 z)).set 3 (.slice (some ⟨gb, 0, none⟩) t.w.length t.w.length)).set 4 (.slice (some ⟨w8.heap.size, 0, none⟩) t.w.length t.w.length))
            have q1 := OW9.out.chg e8 (fun k hk => by have := SB8.out k hk; omega)
            have q2 := Gb9.out.chg e8 (by omega)
            have q3 := S9.out.chg e8 (by omega)
            have b8 := B9.out.trans (e8.belowB (B := w.heap.size) (fun k hk => by omega) B9.out.size)
            have hcr := HAb.out (by trivial)
            rw [HZ.out] at hcr
            generalize ((((((w9.setCell ⟨gc, 4, none⟩ (.slice (some ⟨w8.heap.size, 0, none⟩) t.w.length t.w.length)).setCell ⟨w.heap.size + 1, 0, none⟩ (.slice sd'.a sd'.n sd'.c)).setCell ⟨w.heap.size + 1, 1, none⟩ (.bool true)).setCell ⟨w.heap.size + 1, 2, none⟩ (.int .i64 z)).setCell ⟨w.heap.size + 1, 3, none⟩ (.slice (some ⟨gb, 0, none⟩) t.w.length t.w.length)).setCell ⟨w.heap.size + 1, 4, none⟩ (.slice (some ⟨w8.heap.size, 0, none⟩) t.w.length t.w.length)) = w10 at *
            have y0 := z8.cell' (i := 0) rfl
            have y1 := z8.cell' (i := 1) rfl
            have y2 := z8.cell' (i := 2) rfl
            have y3 := z8.cell' (i := 3) rfl
            have y4 := z8.cell' (i := 4) rfl
            rw [hcr]
            have ei : ints (nats did) ++ [.int .i64 pc] = ints (nats (did ++ [pc])) := by simp [ints, nats]
            rw [ei] at q1
            refine bodyPost_ret (v := .agg #[.slice sd'.a sd'.n sd'.c, .bool true, .int .i64 z, .slice (some ⟨gb, 0, none⟩) t.w.length t.w.length, .slice (some ⟨w8.heap.size, 0, none⟩) t.w.length t.w.length]) (by simp [results, Tryz.results116, go_sem, y0, y1, y2, y3, y4]) rfl
              ⟨sd', ⟨some ⟨gb, 0, none⟩, t.w.length, t.w.length⟩, ⟨some ⟨w8.heap.size, 0, none⟩, t.w.length, t.w.length⟩, rfl, q1.ints, by rw [SN8.out, I.sdn]; simp, q2.slots, by simp [befOf], (Own.of_row q3 (by simp [bools]) NS.out).bools, by simp, ?_, b8⟩
            intro k hk
            simp only [Sl.blk, List.mem_singleton] at hk
            have h8 := B8.out.size
            have l2 := q2.lt; have l3 := q3.lt
            rcases hk with hk | hk | hk
            · have := SB8.out k hk; have := q1.blk_lt k hk; omega
            · omega
            · omega
          · have hE : op ≤ 7 ∨ op = 8 ∨ op = 9 ∨ op = 10 := by omega
            have HOx := hide (fun (wx : World) hb hr ho hne hx hV => HO.out wx hb hr ho hne hx hkr hV hVl)
            have HXx := hide (fun wx hb => HX.out wx hb)
            have HNy := hide (HNx.out h11)
            clear HO HX hsnd hkr hkw H7 R7 G17 G27 G37 G47 C7 B7 HAb HNx
            have n11 : (op == 11) = false := by rw [beq_eq_false_iff_ne]; exact h11
            rcases hE with hE | hE | hE | hE
            · have n10 : (op == 10) = false := by rw [beq_eq_false_iff_ne]; omega
              have n8 : (op == 8) = false := by rw [beq_eq_false_iff_ne]; omega
              have n9 : (op == 9) = false := by rw [beq_eq_false_iff_ne]; omega
              go_wp2_with (first
                | (at_builtin; go_must (refine wpList_append_sl rfl (.tmp 59) (.tmp 61) 30 rfl 3 i0 (.int .i64 0) 1 8 Tryz.underlying30 hi hz0 hz1 hz2 rfl (by decide) sd (ints (nats did)) rfl S1.out (some ⟨wr.heap.size + 1, 0, none⟩) 1 1 [.int .i64 pc] rfl rfl (by simp) (fun ad had j u hu => by cases had; rw [addr_add, Nat.zero_add]; exact P1.out.cell' hu) (by simp [Value.oneCell']) MM.out QQ.out ?_; intro sd' w8 ow8 sn8 ch8 bl8; have X8 := hide (X1.out.chg ch8 NDX.out); have C8 := hide (((II.out.Gc.alloc _).alloc _).chg ch8 (NDB.out _ (Nat.le_refl _))); have H8 := hide (((II.out.H.alloc _).alloc _).chg ch8 (NDB.out _ (by omega))); have R8 := hide (((II.out.R.alloc _).alloc _).chg ch8 (NDB.out _ (by omega))); have Gr8 := hide (((II.out.Gr.alloc _).alloc _).chg ch8 (NDB.out _ (by omega))); have Gb8 := hide (((II.out.Gb.alloc _).alloc _).chg ch8 (NDB.out _ (by omega))); have Go8 := hide (((II.out.Go.alloc _).alloc _).chg ch8 (NDB.out _ (by omega))); have Gs8 := hide (((II.out.Gs.alloc _).alloc _).chg ch8 (NDB.out _ (by omega))); have B8 := hide (II.out.B.trans ((below_on (below_alloc1 wr (.cells #[.int .i64 op, .int .i64 a, .int .i64 b, .int .i64 c] 114)) (below_alloc1 _ (.cells #[.int .i64 pc] 3))).mono II.out.B.size |>.trans (ch8.belowB (B := w.heap.size) (fun k hk => by have := II.out.sdb k hk; omega) (Nat.le_trans II.out.B.size (by simp; omega))))); have OW8 := hide ow8; have SN8 := hide sn8; have SB8 : Hid (∀ k ∈ sd'.blk, gc < k) := (fun k hk => (bl8 k hk).elim (fun h => II.out.sdb k h) (fun h => by rw [h, size_alloc_eq, size_alloc_eq]; omega)); have hs8 := ch8.size; simp only [size_alloc_eq] at hs8; clear ow8 sn8 ch8 bl8; have x0 := X8.out.cell' (i := 0) rfl; have x1' := X8.out.cell' (i := 1) rfl; have x2' := X8.out.cell' (i := 2) rfl; have x3' := X8.out.cell' (i := 3) rfl; have c0 := C8.out.cell' (i := 0) rfl; have c4 := C8.out.cell' (i := 4) rfl; have cf := C8.out.frozen; have hd0 := H8.out.cell' (i := 0) rfl; have hd1 := H8.out.cell' (i := 1) rfl; have hd2 := H8.out.cell' (i := 2) rfl)))
              have E9 := hide ((Chg.refl w8 (fun k => k = gc ∨ k = gs)).put ⟨gc, 0, none⟩ (.slice sd'.a sd'.n sd'.c) (Or.inl rfl))
              have C9 := hide (C8.out.set 0 (.slice sd'.a sd'.n sd'.c))
              have S9 := hide (Gs8.out.setOther (a := ⟨gc, 0, none⟩) (by simp; omega) (.slice sd'.a sd'.n sd'.c))
              have Bu := hide (B8.out.trans (E9.out.belowB (B := w.heap.size) (fun k hk => by omega) B8.out.size))
              refine (HOx.out _ Bu.out (Gr8.out.chg E9.out (by omega)) (Go8.out.chg E9.out (by omega)) (by omega) (HXx.out _ Bu.out) (HV.out.below Bu.out)).mono ?_
              rintro e w10 ⟨rfl, gr10, go10, ch10⟩
              have GR := hide gr10; have GO := hide go10; have CH := hide ch10
              clear gr10 go10 ch10
              obtain ⟨l1, l2⟩ := oneStep_len ⟨op, a, b, c⟩ t.r hv reg out
              have IN : Hid (GoInv w w10 t hv [.slice ra t.r.length rc, .slice wa t.w.length wc, .slice (some ⟨b1, o1, none⟩) t.c.length cc] gb go gs gc (pc + 1) (oneStep ⟨op, a, b, c⟩ t.r hv reg out).1 (oneStep ⟨op, a, b, c⟩ t.r hv reg out).2 (did ++ [pc]) said sd') :=
                ⟨(H8.out.chg E9.out (by omega)).chg CH.out (by omega), (R8.out.chg E9.out (by omega)).chg CH.out (by omega), GR.out, (Gb8.out.chg E9.out (by omega)).chg CH.out (by omega), GO.out, S9.out.chg CH.out (by omega), C9.out.chg CH.out (by omega),
                  by have e1 : ints (nats did) ++ [.int .i64 pc] = ints (nats (did ++ [pc])) := by simp [ints, nats]
                     rw [← e1]; exact (OW8.out.chg E9.out (fun k hk => by have := SB8.out k hk; omega)).chg CH.out (fun k hk => by have := SB8.out k hk; omega),
                  by rw [SN8.out, II.out.sdn]; simp, SB8.out, Bu.out.trans (CH.out.belowB (B := w.heap.size) (fun k hk => by omega) Bu.out.size), by rw [l1]; exact II.out.reg6, by rw [l2]; exact II.out.outn, II.out.saidn, by have := II.out.didle; simp; omega, by omega, by rw [HNy.out]; simp only [nextPc, nextSaid]; rw [if_neg (by omega), if_neg (by omega)]⟩
              clear l1 l2 GR GO CH E9 C9 S9 Bu HOx HXx HNy x0 x1' x2' x3' c0 c4 cf hd0 hd1 hd2
              go_wp2
              go_roundw
              case rel => exact ⟨_, _, _, _, _, _, by go_num, IN.out⟩
              case measure => simp [intOf]; omega
            · subst hE
              obtain ⟨A, rfl⟩ : ∃ A : Nat, a = A := ⟨_, (Int.toNat_of_nonneg (xS (by omega)).1).symm⟩
              have hAw : A < t.w.length := by have := xS (by omega); omega
              have hAs : A < said.length := by rw [II.out.saidn]; exact hAw
              go_wp2_with (first
                | (at_builtin; go_must (refine wpList_append_sl rfl (.tmp 59) (.tmp 61) 30 rfl 3 i0 (.int .i64 0) 1 8 Tryz.underlying30 hi hz0 hz1 hz2 rfl (by decide) sd (ints (nats did)) rfl S1.out (some ⟨wr.heap.size + 1, 0, none⟩) 1 1 [.int .i64 pc] rfl rfl (by simp) (fun ad had j u hu => by cases had; rw [addr_add, Nat.zero_add]; exact P1.out.cell' hu) (by simp [Value.oneCell']) MM.out QQ.out ?_; intro sd' w8 ow8 sn8 ch8 bl8; have X8 := hide (X1.out.chg ch8 NDX.out); have C8 := hide (((II.out.Gc.alloc _).alloc _).chg ch8 (NDB.out _ (Nat.le_refl _))); have H8 := hide (((II.out.H.alloc _).alloc _).chg ch8 (NDB.out _ (by omega))); have R8 := hide (((II.out.R.alloc _).alloc _).chg ch8 (NDB.out _ (by omega))); have Gr8 := hide (((II.out.Gr.alloc _).alloc _).chg ch8 (NDB.out _ (by omega))); have Gb8 := hide (((II.out.Gb.alloc _).alloc _).chg ch8 (NDB.out _ (by omega))); have Go8 := hide (((II.out.Go.alloc _).alloc _).chg ch8 (NDB.out _ (by omega))); have Gs8 := hide (((II.out.Gs.alloc _).alloc _).chg ch8 (NDB.out _ (by omega))); have B8 := hide (II.out.B.trans ((below_on (below_alloc1 wr (.cells #[.int .i64 8, .int .i64 A, .int .i64 b, .int .i64 c] 114)) (below_alloc1 _ (.cells #[.int .i64 pc] 3))).mono II.out.B.size |>.trans (ch8.belowB (B := w.heap.size) (fun k hk => by have := II.out.sdb k hk; omega) (Nat.le_trans II.out.B.size (by simp; omega))))); have OW8 := hide ow8; have SN8 := hide sn8; have SB8 : Hid (∀ k ∈ sd'.blk, gc < k) := (fun k hk => (bl8 k hk).elim (fun h => II.out.sdb k h) (fun h => by rw [h, size_alloc_eq, size_alloc_eq]; omega)); have hs8 := ch8.size; simp only [size_alloc_eq] at hs8; clear ow8 sn8 ch8 bl8; have x0 := X8.out.cell' (i := 0) rfl; have x1' := X8.out.cell' (i := 1) rfl; have x2' := X8.out.cell' (i := 2) rfl; have x3' := X8.out.cell' (i := 3) rfl; have c0 := C8.out.cell' (i := 0) rfl; have c4 := C8.out.cell' (i := 4) rfl; have cf := C8.out.frozen; have hd0 := H8.out.cell' (i := 0) rfl; have hd1 := H8.out.cell' (i := 1) rfl; have hd2 := H8.out.cell' (i := 2) rfl; have s0 := Gs8.out.cell' (bools_getD said A hAs); have sf := Gs8.out.frozen)))
              have E9 := hide (((Chg.refl w8 (fun k => k = gc ∨ k = gs)).put ⟨gc, 0, none⟩ (.slice sd'.a sd'.n sd'.c) (Or.inl rfl)).put ⟨gs, A, none⟩ (.bool true) (Or.inr rfl))
              have C9 := hide (C8.out.set 0 (.slice sd'.a sd'.n sd'.c))
              replace C9 := hide (C9.out.setOther (a := ⟨gs, A, none⟩) (by simp; omega) (.bool true))
              have S9 := hide (((Gs8.out.setOther (a := ⟨gc, 0, none⟩) (by simp; omega) (.slice sd'.a sd'.n sd'.c)).set A (.bool true)))
              rw [bools_set] at S9
              have Bu := hide (B8.out.trans (E9.out.belowB (B := w.heap.size) (fun k hk => by omega) B8.out.size))
              refine (HOx.out _ Bu.out (Gr8.out.chg E9.out (by omega)) (Go8.out.chg E9.out (by omega)) (by omega) (HXx.out _ Bu.out) (HV.out.below Bu.out)).mono ?_
              rintro e w10 ⟨rfl, gr10, go10, ch10⟩
              have GR := hide gr10; have GO := hide go10; have CH := hide ch10
              clear gr10 go10 ch10
              obtain ⟨l1, l2⟩ := oneStep_len ⟨8, A, b, c⟩ t.r hv reg out
              have IN : Hid (GoInv w w10 t hv [.slice ra t.r.length rc, .slice wa t.w.length wc, .slice (some ⟨b1, o1, none⟩) t.c.length cc] gb go gs gc (pc + 1) (oneStep ⟨8, A, b, c⟩ t.r hv reg out).1 (oneStep ⟨8, A, b, c⟩ t.r hv reg out).2 (did ++ [pc]) (said.set A true) sd') :=
                ⟨(H8.out.chg E9.out (by omega)).chg CH.out (by omega), (R8.out.chg E9.out (by omega)).chg CH.out (by omega), GR.out, (Gb8.out.chg E9.out (by omega)).chg CH.out (by omega), GO.out, S9.out.chg CH.out (by omega), C9.out.chg CH.out (by omega),
                  by have e1 : ints (nats did) ++ [.int .i64 pc] = ints (nats (did ++ [pc])) := by simp [ints, nats]
                     rw [← e1]; exact (OW8.out.chg E9.out (fun k hk => by have := SB8.out k hk; omega)).chg CH.out (fun k hk => by have := SB8.out k hk; omega),
                  by rw [SN8.out, II.out.sdn]; simp, SB8.out, Bu.out.trans (CH.out.belowB (B := w.heap.size) (fun k hk => by omega) Bu.out.size), by rw [l1]; exact II.out.reg6, by rw [l2]; exact II.out.outn, by simp; exact II.out.saidn, by have := II.out.didle; simp; omega, by omega, by rw [HNy.out]; simp [nextPc, nextSaid]⟩
              clear l1 l2 GR GO CH E9 C9 S9 Bu HOx HXx HNy x0 x1' x2' x3' c0 c4 cf hd0 hd1 hd2 s0 sf
              go_wp2
              go_roundw
              case rel => exact ⟨_, _, _, _, _, _, by go_num, IN.out⟩
              case measure => simp [intOf]; omega
            · subst hE
              obtain ⟨A, rfl⟩ : ∃ A : Nat, a = A := ⟨_, (Int.toNat_of_nonneg (xS (by omega)).1).symm⟩
              have hAw : A < t.w.length := by have := xS (by omega); omega
              have hAs : A < said.length := by rw [II.out.saidn]; exact hAw
              go_wp2_with (first
                | (at_builtin; go_must (refine wpList_append_sl rfl (.tmp 59) (.tmp 61) 30 rfl 3 i0 (.int .i64 0) 1 8 Tryz.underlying30 hi hz0 hz1 hz2 rfl (by decide) sd (ints (nats did)) rfl S1.out (some ⟨wr.heap.size + 1, 0, none⟩) 1 1 [.int .i64 pc] rfl rfl (by simp) (fun ad had j u hu => by cases had; rw [addr_add, Nat.zero_add]; exact P1.out.cell' hu) (by simp [Value.oneCell']) MM.out QQ.out ?_; intro sd' w8 ow8 sn8 ch8 bl8; have X8 := hide (X1.out.chg ch8 NDX.out); have C8 := hide (((II.out.Gc.alloc _).alloc _).chg ch8 (NDB.out _ (Nat.le_refl _))); have H8 := hide (((II.out.H.alloc _).alloc _).chg ch8 (NDB.out _ (by omega))); have R8 := hide (((II.out.R.alloc _).alloc _).chg ch8 (NDB.out _ (by omega))); have Gr8 := hide (((II.out.Gr.alloc _).alloc _).chg ch8 (NDB.out _ (by omega))); have Gb8 := hide (((II.out.Gb.alloc _).alloc _).chg ch8 (NDB.out _ (by omega))); have Go8 := hide (((II.out.Go.alloc _).alloc _).chg ch8 (NDB.out _ (by omega))); have Gs8 := hide (((II.out.Gs.alloc _).alloc _).chg ch8 (NDB.out _ (by omega))); have B8 := hide (II.out.B.trans ((below_on (below_alloc1 wr (.cells #[.int .i64 9, .int .i64 A, .int .i64 b, .int .i64 c] 114)) (below_alloc1 _ (.cells #[.int .i64 pc] 3))).mono II.out.B.size |>.trans (ch8.belowB (B := w.heap.size) (fun k hk => by have := II.out.sdb k hk; omega) (Nat.le_trans II.out.B.size (by simp; omega))))); have OW8 := hide ow8; have SN8 := hide sn8; have SB8 : Hid (∀ k ∈ sd'.blk, gc < k) := (fun k hk => (bl8 k hk).elim (fun h => II.out.sdb k h) (fun h => by rw [h, size_alloc_eq, size_alloc_eq]; omega)); have hs8 := ch8.size; simp only [size_alloc_eq] at hs8; clear ow8 sn8 ch8 bl8; have x0 := X8.out.cell' (i := 0) rfl; have x1' := X8.out.cell' (i := 1) rfl; have x2' := X8.out.cell' (i := 2) rfl; have x3' := X8.out.cell' (i := 3) rfl; have c0 := C8.out.cell' (i := 0) rfl; have c4 := C8.out.cell' (i := 4) rfl; have cf := C8.out.frozen; have hd0 := H8.out.cell' (i := 0) rfl; have hd1 := H8.out.cell' (i := 1) rfl; have hd2 := H8.out.cell' (i := 2) rfl; have s0 := Gs8.out.cell' (bools_getD said A hAs); have sf := Gs8.out.frozen)))
              have E9 := hide (((Chg.refl w8 (fun k => k = gc ∨ k = gs)).put ⟨gc, 0, none⟩ (.slice sd'.a sd'.n sd'.c) (Or.inl rfl)).put ⟨gs, A, none⟩ (.bool true) (Or.inr rfl))
              have C9 := hide (C8.out.set 0 (.slice sd'.a sd'.n sd'.c))
              replace C9 := hide (C9.out.setOther (a := ⟨gs, A, none⟩) (by simp; omega) (.bool true))
              have S9 := hide (((Gs8.out.setOther (a := ⟨gc, 0, none⟩) (by simp; omega) (.slice sd'.a sd'.n sd'.c)).set A (.bool true)))
              rw [bools_set] at S9
              have Bu := hide (B8.out.trans (E9.out.belowB (B := w.heap.size) (fun k hk => by omega) B8.out.size))
              refine (HOx.out _ Bu.out (Gr8.out.chg E9.out (by omega)) (Go8.out.chg E9.out (by omega)) (by omega) (HXx.out _ Bu.out) (HV.out.below Bu.out)).mono ?_
              rintro e w10 ⟨rfl, gr10, go10, ch10⟩
              have GR := hide gr10; have GO := hide go10; have CH := hide ch10
              clear gr10 go10 ch10
              obtain ⟨l1, l2⟩ := oneStep_len ⟨9, A, b, c⟩ t.r hv reg out
              have IN : Hid (GoInv w w10 t hv [.slice ra t.r.length rc, .slice wa t.w.length wc, .slice (some ⟨b1, o1, none⟩) t.c.length cc] gb go gs gc (pc + 1) (oneStep ⟨9, A, b, c⟩ t.r hv reg out).1 (oneStep ⟨9, A, b, c⟩ t.r hv reg out).2 (did ++ [pc]) (said.set A true) sd') :=
                ⟨(H8.out.chg E9.out (by omega)).chg CH.out (by omega), (R8.out.chg E9.out (by omega)).chg CH.out (by omega), GR.out, (Gb8.out.chg E9.out (by omega)).chg CH.out (by omega), GO.out, S9.out.chg CH.out (by omega), C9.out.chg CH.out (by omega),
                  by have e1 : ints (nats did) ++ [.int .i64 pc] = ints (nats (did ++ [pc])) := by simp [ints, nats]
                     rw [← e1]; exact (OW8.out.chg E9.out (fun k hk => by have := SB8.out k hk; omega)).chg CH.out (fun k hk => by have := SB8.out k hk; omega),
                  by rw [SN8.out, II.out.sdn]; simp, SB8.out, Bu.out.trans (CH.out.belowB (B := w.heap.size) (fun k hk => by omega) Bu.out.size), by rw [l1]; exact II.out.reg6, by rw [l2]; exact II.out.outn, by simp; exact II.out.saidn, by have := II.out.didle; simp; omega, by omega, by rw [HNy.out]; simp [nextPc, nextSaid]⟩
              clear l1 l2 GR GO CH E9 C9 S9 Bu HOx HXx HNy x0 x1' x2' x3' c0 c4 cf hd0 hd1 hd2 s0 sf
              go_wp2
              go_roundw
              case rel => exact ⟨_, _, _, _, _, _, by go_num, IN.out⟩
              case measure => simp [intOf]; omega
            · subst hE
              obtain ⟨A, rfl⟩ : ∃ A : Nat, a = A := ⟨_, (Int.toNat_of_nonneg (xA (by omega)).1).symm⟩
              have hA6 : A < 6 := by have := xA (by omega); omega
              obtain ⟨Bn, rfl⟩ : ∃ Bn : Nat, b = Bn := ⟨_, (Int.toNat_of_nonneg (by have := xP (by omega); omega)).symm⟩
              have hB30 : Bn ≤ 30 := by have := xP (by omega); omega
              have hAr : A < reg.length := by rw [II.out.reg6]; exact hA6
              obtain ⟨z, hz⟩ : ∃ z, z = reg.getD A 0 := ⟨_, rfl⟩
              have HZ := hide hz.symm
              clear hz
              by_cases hz0' : z = 0
              · have hzb : (z == 0) = true := by rw [beq_iff_eq]; exact hz0'
                have HZ0 := hide hz0'
                clear hz0'
                go_wp2_with (first
                  | (at_builtin; go_must (refine wpList_append_sl rfl (.tmp 59) (.tmp 61) 30 rfl 3 i0 (.int .i64 0) 1 8 Tryz.underlying30 hi hz0 hz1 hz2 rfl (by decide) sd (ints (nats did)) rfl S1.out (some ⟨wr.heap.size + 1, 0, none⟩) 1 1 [.int .i64 pc] rfl rfl (by simp) (fun ad had j u hu => by cases had; rw [addr_add, Nat.zero_add]; exact P1.out.cell' hu) (by simp [Value.oneCell']) MM.out QQ.out ?_; intro sd' w8 ow8 sn8 ch8 bl8; have X8 := hide (X1.out.chg ch8 NDX.out); have C8 := hide (((II.out.Gc.alloc _).alloc _).chg ch8 (NDB.out _ (Nat.le_refl _))); have H8 := hide (((II.out.H.alloc _).alloc _).chg ch8 (NDB.out _ (by omega))); have R8 := hide (((II.out.R.alloc _).alloc _).chg ch8 (NDB.out _ (by omega))); have Gr8 := hide (((II.out.Gr.alloc _).alloc _).chg ch8 (NDB.out _ (by omega))); have Gb8 := hide (((II.out.Gb.alloc _).alloc _).chg ch8 (NDB.out _ (by omega))); have Go8 := hide (((II.out.Go.alloc _).alloc _).chg ch8 (NDB.out _ (by omega))); have Gs8 := hide (((II.out.Gs.alloc _).alloc _).chg ch8 (NDB.out _ (by omega))); have B8 := hide (II.out.B.trans ((below_on (below_alloc1 wr (.cells #[.int .i64 10, .int .i64 A, .int .i64 Bn, .int .i64 c] 114)) (below_alloc1 _ (.cells #[.int .i64 pc] 3))).mono II.out.B.size |>.trans (ch8.belowB (B := w.heap.size) (fun k hk => by have := II.out.sdb k hk; omega) (Nat.le_trans II.out.B.size (by simp; omega))))); have OW8 := hide ow8; have SN8 := hide sn8; have SB8 : Hid (∀ k ∈ sd'.blk, gc < k) := (fun k hk => (bl8 k hk).elim (fun h => II.out.sdb k h) (fun h => by rw [h, size_alloc_eq, size_alloc_eq]; omega)); have hs8 := ch8.size; simp only [size_alloc_eq] at hs8; clear ow8 sn8 ch8 bl8; have x0 := X8.out.cell' (i := 0) rfl; have x1' := X8.out.cell' (i := 1) rfl; have x2' := X8.out.cell' (i := 2) rfl; have x3' := X8.out.cell' (i := 3) rfl; have c0 := C8.out.cell' (i := 0) rfl; have c4 := C8.out.cell' (i := 4) rfl; have cf := C8.out.frozen; have hd0 := H8.out.cell' (i := 0) rfl; have hd1 := H8.out.cell' (i := 1) rfl; have hd2 := H8.out.cell' (i := 2) rfl; have r0 := Gr8.out.cell' (ints_getD reg A hAr); rw [HZ.out] at r0)))
                have E9 := hide ((Chg.refl w8 (fun k => k = gc ∨ k = gs)).put ⟨gc, 0, none⟩ (.slice sd'.a sd'.n sd'.c) (Or.inl rfl))
                have C9 := hide (C8.out.set 0 (.slice sd'.a sd'.n sd'.c))
                have S9 := hide (Gs8.out.setOther (a := ⟨gc, 0, none⟩) (by simp; omega) (.slice sd'.a sd'.n sd'.c))
                have Bu := hide (B8.out.trans (E9.out.belowB (B := w.heap.size) (fun k hk => by omega) B8.out.size))
                refine (HOx.out _ Bu.out (Gr8.out.chg E9.out (by omega)) (Go8.out.chg E9.out (by omega)) (by omega) (HXx.out _ Bu.out) (HV.out.below Bu.out)).mono ?_
                rintro e w10 ⟨rfl, gr10, go10, ch10⟩
                have GR := hide gr10; have GO := hide go10; have CH := hide ch10
                clear gr10 go10 ch10
                obtain ⟨l1, l2⟩ := oneStep_len ⟨10, A, Bn, c⟩ t.r hv reg out
                have IN : Hid (GoInv w w10 t hv [.slice ra t.r.length rc, .slice wa t.w.length wc, .slice (some ⟨b1, o1, none⟩) t.c.length cc] gb go gs gc (pc + Bn + 1) (oneStep ⟨10, A, Bn, c⟩ t.r hv reg out).1 (oneStep ⟨10, A, Bn, c⟩ t.r hv reg out).2 (did ++ [pc]) said sd') :=
                  ⟨(H8.out.chg E9.out (by omega)).chg CH.out (by omega), (R8.out.chg E9.out (by omega)).chg CH.out (by omega), GR.out, (Gb8.out.chg E9.out (by omega)).chg CH.out (by omega), GO.out, S9.out.chg CH.out (by omega), C9.out.chg CH.out (by omega),
                    by have e1 : ints (nats did) ++ [.int .i64 pc] = ints (nats (did ++ [pc])) := by simp [ints, nats]
                       rw [← e1]; exact (OW8.out.chg E9.out (fun k hk => by have := SB8.out k hk; omega)).chg CH.out (fun k hk => by have := SB8.out k hk; omega),
                    by rw [SN8.out, II.out.sdn]; simp, SB8.out, Bu.out.trans (CH.out.belowB (B := w.heap.size) (fun k hk => by omega) Bu.out.size), by rw [l1]; exact II.out.reg6, by rw [l2]; exact II.out.outn, II.out.saidn, by have := II.out.didle; simp; omega, by omega, by rw [HNy.out]; simp only [nextPc, nextSaid]; rw [if_pos ⟨by trivial, (show regOf reg (A : Int) = 0 by rw [regOf, Int.toNat_natCast, HZ.out, HZ0.out])⟩, if_neg (by omega)]; rfl⟩
                clear l1 l2 GR GO CH E9 C9 S9 Bu HOx HXx HNy x0 x1' x2' x3' c0 c4 cf hd0 hd1 hd2 r0
                go_wp2
                go_roundw
                case rel => exact ⟨_, _, _, _, _, _, by go_num, IN.out⟩
                case measure => simp [intOf]; omega
              · have hzb : (z == 0) = false := by rw [beq_eq_false_iff_ne]; exact hz0'
                go_wp2_with (first
                  | (at_builtin; go_must (refine wpList_append_sl rfl (.tmp 59) (.tmp 61) 30 rfl 3 i0 (.int .i64 0) 1 8 Tryz.underlying30 hi hz0 hz1 hz2 rfl (by decide) sd (ints (nats did)) rfl S1.out (some ⟨wr.heap.size + 1, 0, none⟩) 1 1 [.int .i64 pc] rfl rfl (by simp) (fun ad had j u hu => by cases had; rw [addr_add, Nat.zero_add]; exact P1.out.cell' hu) (by simp [Value.oneCell']) MM.out QQ.out ?_; intro sd' w8 ow8 sn8 ch8 bl8; have X8 := hide (X1.out.chg ch8 NDX.out); have C8 := hide (((II.out.Gc.alloc _).alloc _).chg ch8 (NDB.out _ (Nat.le_refl _))); have H8 := hide (((II.out.H.alloc _).alloc _).chg ch8 (NDB.out _ (by omega))); have R8 := hide (((II.out.R.alloc _).alloc _).chg ch8 (NDB.out _ (by omega))); have Gr8 := hide (((II.out.Gr.alloc _).alloc _).chg ch8 (NDB.out _ (by omega))); have Gb8 := hide (((II.out.Gb.alloc _).alloc _).chg ch8 (NDB.out _ (by omega))); have Go8 := hide (((II.out.Go.alloc _).alloc _).chg ch8 (NDB.out _ (by omega))); have Gs8 := hide (((II.out.Gs.alloc _).alloc _).chg ch8 (NDB.out _ (by omega))); have B8 := hide (II.out.B.trans ((below_on (below_alloc1 wr (.cells #[.int .i64 10, .int .i64 A, .int .i64 Bn, .int .i64 c] 114)) (below_alloc1 _ (.cells #[.int .i64 pc] 3))).mono II.out.B.size |>.trans (ch8.belowB (B := w.heap.size) (fun k hk => by have := II.out.sdb k hk; omega) (Nat.le_trans II.out.B.size (by simp; omega))))); have OW8 := hide ow8; have SN8 := hide sn8; have SB8 : Hid (∀ k ∈ sd'.blk, gc < k) := (fun k hk => (bl8 k hk).elim (fun h => II.out.sdb k h) (fun h => by rw [h, size_alloc_eq, size_alloc_eq]; omega)); have hs8 := ch8.size; simp only [size_alloc_eq] at hs8; clear ow8 sn8 ch8 bl8; have x0 := X8.out.cell' (i := 0) rfl; have x1' := X8.out.cell' (i := 1) rfl; have x2' := X8.out.cell' (i := 2) rfl; have x3' := X8.out.cell' (i := 3) rfl; have c0 := C8.out.cell' (i := 0) rfl; have c4 := C8.out.cell' (i := 4) rfl; have cf := C8.out.frozen; have hd0 := H8.out.cell' (i := 0) rfl; have hd1 := H8.out.cell' (i := 1) rfl; have hd2 := H8.out.cell' (i := 2) rfl; have r0 := Gr8.out.cell' (ints_getD reg A hAr); rw [HZ.out] at r0)))
                have E9 := hide ((Chg.refl w8 (fun k => k = gc ∨ k = gs)).put ⟨gc, 0, none⟩ (.slice sd'.a sd'.n sd'.c) (Or.inl rfl))
                have C9 := hide (C8.out.set 0 (.slice sd'.a sd'.n sd'.c))
                have S9 := hide (Gs8.out.setOther (a := ⟨gc, 0, none⟩) (by simp; omega) (.slice sd'.a sd'.n sd'.c))
                have Bu := hide (B8.out.trans (E9.out.belowB (B := w.heap.size) (fun k hk => by omega) B8.out.size))
                refine (HOx.out _ Bu.out (Gr8.out.chg E9.out (by omega)) (Go8.out.chg E9.out (by omega)) (by omega) (HXx.out _ Bu.out) (HV.out.below Bu.out)).mono ?_
                rintro e w10 ⟨rfl, gr10, go10, ch10⟩
                have GR := hide gr10; have GO := hide go10; have CH := hide ch10
                clear gr10 go10 ch10
                obtain ⟨l1, l2⟩ := oneStep_len ⟨10, A, Bn, c⟩ t.r hv reg out
                have IN : Hid (GoInv w w10 t hv [.slice ra t.r.length rc, .slice wa t.w.length wc, .slice (some ⟨b1, o1, none⟩) t.c.length cc] gb go gs gc (pc + 1) (oneStep ⟨10, A, Bn, c⟩ t.r hv reg out).1 (oneStep ⟨10, A, Bn, c⟩ t.r hv reg out).2 (did ++ [pc]) said sd') :=
                  ⟨(H8.out.chg E9.out (by omega)).chg CH.out (by omega), (R8.out.chg E9.out (by omega)).chg CH.out (by omega), GR.out, (Gb8.out.chg E9.out (by omega)).chg CH.out (by omega), GO.out, S9.out.chg CH.out (by omega), C9.out.chg CH.out (by omega),
                    by have e1 : ints (nats did) ++ [.int .i64 pc] = ints (nats (did ++ [pc])) := by simp [ints, nats]
                       rw [← e1]; exact (OW8.out.chg E9.out (fun k hk => by have := SB8.out k hk; omega)).chg CH.out (fun k hk => by have := SB8.out k hk; omega),
                    by rw [SN8.out, II.out.sdn]; simp, SB8.out, Bu.out.trans (CH.out.belowB (B := w.heap.size) (fun k hk => by omega) Bu.out.size), by rw [l1]; exact II.out.reg6, by rw [l2]; exact II.out.outn, II.out.saidn, by have := II.out.didle; simp; omega, by omega, by rw [HNy.out]; simp only [nextPc, nextSaid]; rw [if_neg (fun hh => hz0' (by rw [← HZ.out]; exact hh.2)), if_neg (by omega)]⟩
                clear l1 l2 GR GO CH E9 C9 S9 Bu HOx HXx HNy x0 x1' x2' x3' c0 c4 cf hd0 hd1 hd2 r0
                go_wp2
                go_roundw
                case rel => exact ⟨_, _, _, _, _, _, by go_num, IN.out⟩
                case measure => simp [intOf]; omega
        · have hcr := goAt_end (hv := hv) (bef := befOf t hv) (reg := reg) (out := out) (did := did) (said := said) hlt
          rw [I.crs] at hcr
          have r0 := I.Gr.cell' (ints_getD reg 0 (by rw [I.reg6]; omega))
          have gc0 := I.Gc.cell' (i := 0) rfl
          have gc1 := I.Gc.cell' (i := 1) rfl
          have gc2 := I.Gc.cell' (i := 2) rfl
          have gc3 := I.Gc.cell' (i := 3) rfl
          have gc4 := I.Gc.cell' (i := 4) rfl
          have gcf := I.Gc.frozen
          have R0 := I.R.cell' (i := 0) rfl
          have R1 := I.R.cell' (i := 1) rfl
          have R2 := I.R.cell' (i := 2) rfl
          have R3 := I.R.cell' (i := 3) rfl
          have R4 := I.R.cell' (i := 4) rfl
          have Rf := I.R.frozen
          have II := hide I
          clear I
          generalize reg.getD 0 0 = z at *
          clear HX HV hsnd hkr hkw H7 R7 G17 G27 G37 G47 C7 B7
          go_wp2
          have I := II.out
          have e8 := (((((((((Chg.refl wr (fun k => k = gc ∨ k = w.heap.size + 1)).put ⟨gc, 1, none⟩ (.bool false) (Or.inl rfl)).put ⟨gc, 2, none⟩ (.int .i64 z) (Or.inl rfl)).put ⟨gc, 3, none⟩ (.slice (some ⟨go, 0, none⟩) t.w.length t.w.length) (Or.inl rfl)).put
            ⟨w.heap.size + 1, 0, none⟩ (.slice sd.a sd.n sd.c) (Or.inr rfl)).put ⟨w.heap.size + 1, 1, none⟩ (.bool false) (Or.inr rfl)).put ⟨w.heap.size + 1, 2, none⟩ (.int .i64 z) (Or.inr rfl)).put ⟨w.heap.size + 1, 3, none⟩ (.slice (some ⟨go, 0, none⟩) t.w.length t.w.length) (Or.inr rfl)).put ⟨w.heap.size + 1, 4, none⟩ (.slice (some ⟨gs, 0, none⟩) t.w.length t.w.length) (Or.inr rfl))
          have z8 := ((((((((I.R.setOther (a := ⟨gc, 1, none⟩) (by simp; omega) (.bool false)).setOther (a := ⟨gc, 2, none⟩) (by simp; omega) (.int .i64 z)).setOther (a := ⟨gc, 3, none⟩) (by simp; omega) (.slice (some ⟨go, 0, none⟩) t.w.length t.w.length)).set
            0 (.slice sd.a sd.n sd.c)).set 1 (.bool false)).set 2 (.int .i64 z)).set 3 (.slice (some ⟨go, 0, none⟩) t.w.length t.w.length)).set 4 (.slice (some ⟨gs, 0, none⟩) t.w.length t.w.length))
          have q1 := I.Sd.chg e8 (fun k hk => by have := I.sdb k hk; omega)
          have q2 := I.Go.chg e8 (by omega)
          have q3 := I.Gs.chg e8 (by omega)
          have b8 := I.B.trans (e8.belowB (B := w.heap.size) (fun k hk => by omega) I.B.size)
          generalize ((((((((wr.setCell ⟨gc, 1, none⟩ (.bool false)).setCell ⟨gc, 2, none⟩ (.int .i64 z)).setCell ⟨gc, 3, none⟩ (.slice (some ⟨go, 0, none⟩) t.w.length t.w.length)).setCell ⟨w.heap.size + 1, 0, none⟩ (.slice sd.a sd.n sd.c)).setCell ⟨w.heap.size + 1, 1, none⟩ (.bool false)).setCell ⟨w.heap.size + 1, 2, none⟩ (.int .i64 z)).setCell ⟨w.heap.size + 1, 3, none⟩ (.slice (some ⟨go, 0, none⟩) t.w.length t.w.length)).setCell ⟨w.heap.size + 1, 4, none⟩ (.slice (some ⟨gs, 0, none⟩) t.w.length t.w.length)) = w8 at *
          have y0 := z8.cell' (i := 0) rfl
          have y1 := z8.cell' (i := 1) rfl
          have y2 := z8.cell' (i := 2) rfl
          have y3 := z8.cell' (i := 3) rfl
          have y4 := z8.cell' (i := 4) rfl
          rw [hcr]
          refine bodyPost_ret (v := .agg #[.slice sd.a sd.n sd.c, .bool false, .int .i64 z, .slice (some ⟨go, 0, none⟩) t.w.length t.w.length, .slice (some ⟨gs, 0, none⟩) t.w.length t.w.length]) (by simp [results, Tryz.results116, go_sem, y0, y1, y2, y3, y4]) rfl
            ⟨sd, ⟨some ⟨go, 0, none⟩, t.w.length, t.w.length⟩, ⟨some ⟨gs, 0, none⟩, t.w.length, t.w.length⟩, rfl, q1.ints, I.sdn, q2.slots, I.outn.symm, (Own.of_row q3 (by simp [bools, I.saidn]) NS.out).bools, I.saidn.symm, ?_, b8⟩
          intro k hk
          simp only [List.mem_append, Sl.blk, List.mem_singleton] at hk
          have := hgbl; have := hgol; have := hgsl; have := gb2
          have l2 := q2.lt; have l3 := q3.lt
          rcases hk with hk | hk | hk
          · have := I.sdb k hk; have := q1.blk_lt k hk; omega
          · omega
          · omega

end Go.Proofs.YtlheloogmgmjnaaGreat
