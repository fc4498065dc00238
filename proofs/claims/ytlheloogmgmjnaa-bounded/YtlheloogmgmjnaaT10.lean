import Derived.Test.YtlheloogmgmjnaaT09
import Derived.BigRegion
import Derived.BigQuiet
namespace Go.Proofs.Ytlheloogmgmjnaa
open Go.RowKit

theorem MacAt.frozen {w : World} {g : Nat} {T : TypeId} {pre suf : List Value} {m : Mac} (h : MacAt w g T pre suf m) (i : Nat) : w.frozen? ⟨g, pre.length + i, none⟩ = false := h.row.frozen _
theorem MacAt.alloc {w : World} {g : Nat} {T : TypeId} {pre suf : List Value} {m : Mac} (h : MacAt w g T pre suf m) (o : Obj) : MacAt (w.alloc o) g T pre suf m := h.below' (below_alloc1 _ _)
theorem MacAt.drew {w : World} {g : Nat} {T : TypeId} {pre suf : List Value} {m : Mac} (h : MacAt w g T pre suf m) : MacAt w.drew g T pre suf m := ⟨h.row.drew, h.r6, h.s6⟩
theorem chg_set_alloc {w : World} {a : Addr} {v : Value} {o1 : Obj} : Chg w ((w.setCell a v).alloc o1) (· = a.block) := (Chg.setCell w a v).trans (Chg.of_below (below_alloc1 _ _) _)
theorem chg_set3_alloc {w : World} {g i j k : Nat} {v u x : Value} {o1 : Obj} : Chg w ((((w.setCell ⟨g, i, none⟩ v).setCell ⟨g, j, none⟩ u).setCell ⟨g, k, none⟩ x).alloc o1) (· = g) :=
  (Chg.setCell w ⟨g, i, none⟩ v).trans ((Chg.setCell _ ⟨g, j, none⟩ u).trans ((Chg.setCell _ ⟨g, k, none⟩ x).trans (Chg.of_below (below_alloc1 _ _) _)))

set_option maxHeartbeats 400000 in
theorem moneIf_any (b : Bool) (w : World) : Calls Try.prog 95 #[.bool b] w fun e w' => e = .returned (.int .i64 (if b then 1 else 0)) ∧ w' = w := by
  cases b
  · go_enter Try.func95, Try.ntmps95
    go_wp2
    go_ret
    exact ⟨rfl, rfl⟩
  · go_enter Try.func95, Try.ntmps95
    go_wp2
    go_ret
    exact ⟨rfl, rfl⟩

set_option maxHeartbeats 1000000 in
set_option maxRecDepth 100000 in
theorem mdo_1 (a : Nat) (b c : Int) (g : Nat) (T : TypeId) (pre suf : List Value) (m : Mac) (w : World) (h : MacAt w g T pre suf m) (ha6 : a < 6) :
    Calls Try.prog 88 #[.pointer (some ⟨g, pre.length, none⟩), .agg #[.int .i64 1, .int .i64 a, .int .i64 b, .int .i64 c]] w fun e w' =>
      e = .returned (.tuple #[]) ∧ MacAt w' g T pre suf { m with regs := m.regs.set a b } ∧ Chg w w' (· = g) := by
  have hlt := h.row.lt
  have hA := h.cell (Mac.row_reg h.r6 ha6)
  generalize m.regs.getD a 0 = x at *
  have hf := h.frozen (4 + a)
  have HR := hide (h.set1 (i := 4 + a) (by omega) (Mac.row_set_reg h.r6 ha6 b) (by simp [h.r6]) h.s6)
  clear h
  rw [← Nat.add_assoc] at hA hf HR
  generalize pre.length = o at *
  have ha' : (a : Int) < 6 := by omega
  go_enter Try.func88, Try.ntmps88
  go_wp2
  go_region
  go_wp2
  go_end0
  exact ⟨rfl, (HR.out.alloc _).drew, chg_set_alloc.drew⟩

set_option maxHeartbeats 2000000 in
set_option maxRecDepth 100000 in
theorem mdo_2 (a b c : Nat) (g : Nat) (T : TypeId) (pre suf : List Value) (m : Mac) (w : World) (h : MacAt w g T pre suf m) (ha6 : a < 6) (hb6 : b < 6) (hc6 : c < 6) :
    Calls Try.prog 88 #[.pointer (some ⟨g, pre.length, none⟩), .agg #[.int .i64 2, .int .i64 a, .int .i64 b, .int .i64 c]] w fun e w' =>
      e = .returned (.tuple #[]) ∧ MacAt w' g T pre suf { m with regs := m.regs.set a (wrap64 (m.regs.getD b 0 + m.regs.getD c 0)) } ∧ Chg w w' (· = g) := by
  have hlt := h.row.lt
  have hA := h.cell (Mac.row_reg h.r6 ha6)
  have hB := h.cell (Mac.row_reg h.r6 hb6)
  have hC := h.cell (Mac.row_reg h.r6 hc6)
  generalize m.regs.getD b 0 = y at *
  generalize m.regs.getD c 0 = z at *
  generalize m.regs.getD a 0 = x at *
  have hf := h.frozen (4 + a)
  have HR := hide (h.set1 (i := 4 + a) (by omega) (Mac.row_set_reg h.r6 ha6 (wrap64 (y + z))) (by simp [h.r6]) h.s6)
  clear h
  rw [← Nat.add_assoc] at hA hB hC hf HR
  generalize pre.length = o at *
  have ha' : (a : Int) < 6 := by omega
  have hb' : (b : Int) < 6 := by omega
  have hc' : (c : Int) < 6 := by omega
  go_enter Try.func88, Try.ntmps88
  go_wp2
  go_region
  go_wp2
  go_end0
  exact ⟨rfl, (HR.out.alloc _).drew, chg_set_alloc.drew⟩

set_option maxHeartbeats 2000000 in
set_option maxRecDepth 100000 in
theorem mdo_3 (a b c : Nat) (g : Nat) (T : TypeId) (pre suf : List Value) (m : Mac) (w : World) (h : MacAt w g T pre suf m) (ha6 : a < 6) (hb6 : b < 6) (hc6 : c < 6) :
    Calls Try.prog 88 #[.pointer (some ⟨g, pre.length, none⟩), .agg #[.int .i64 3, .int .i64 a, .int .i64 b, .int .i64 c]] w fun e w' =>
      e = .returned (.tuple #[]) ∧ MacAt w' g T pre suf { m with regs := m.regs.set a (wrap64 (m.regs.getD b 0 - m.regs.getD c 0)) } ∧ Chg w w' (· = g) := by
  have hlt := h.row.lt
  have hA := h.cell (Mac.row_reg h.r6 ha6)
  have hB := h.cell (Mac.row_reg h.r6 hb6)
  have hC := h.cell (Mac.row_reg h.r6 hc6)
  generalize m.regs.getD b 0 = y at *
  generalize m.regs.getD c 0 = z at *
  generalize m.regs.getD a 0 = x at *
  have hf := h.frozen (4 + a)
  have HR := hide (h.set1 (i := 4 + a) (by omega) (Mac.row_set_reg h.r6 ha6 (wrap64 (y - z))) (by simp [h.r6]) h.s6)
  clear h
  rw [← Nat.add_assoc] at hA hB hC hf HR
  generalize pre.length = o at *
  have ha' : (a : Int) < 6 := by omega
  have hb' : (b : Int) < 6 := by omega
  have hc' : (c : Int) < 6 := by omega
  go_enter Try.func88, Try.ntmps88
  go_wp2
  go_region
  go_wp2
  go_end0
  exact ⟨rfl, (HR.out.alloc _).drew, chg_set_alloc.drew⟩

set_option maxHeartbeats 2000000 in
set_option maxRecDepth 100000 in
theorem mdo_4 (a b c : Nat) (g : Nat) (T : TypeId) (pre suf : List Value) (m : Mac) (w : World) (h : MacAt w g T pre suf m) (ha6 : a < 6) (hb6 : b < 6) (hc6 : c < 6) :
    Calls Try.prog 88 #[.pointer (some ⟨g, pre.length, none⟩), .agg #[.int .i64 4, .int .i64 a, .int .i64 b, .int .i64 c]] w fun e w' =>
      e = .returned (.tuple #[]) ∧ MacAt w' g T pre suf { m with regs := m.regs.set a (wrap64 (m.regs.getD b 0 * m.regs.getD c 0)) } ∧ Chg w w' (· = g) := by
  have hlt := h.row.lt
  have hA := h.cell (Mac.row_reg h.r6 ha6)
  have hB := h.cell (Mac.row_reg h.r6 hb6)
  have hC := h.cell (Mac.row_reg h.r6 hc6)
  generalize m.regs.getD b 0 = y at *
  generalize m.regs.getD c 0 = z at *
  generalize m.regs.getD a 0 = x at *
  have hf := h.frozen (4 + a)
  have HR := hide (h.set1 (i := 4 + a) (by omega) (Mac.row_set_reg h.r6 ha6 (wrap64 (y * z))) (by simp [h.r6]) h.s6)
  clear h
  rw [← Nat.add_assoc] at hA hB hC hf HR
  generalize pre.length = o at *
  have ha' : (a : Int) < 6 := by omega
  have hb' : (b : Int) < 6 := by omega
  have hc' : (c : Int) < 6 := by omega
  go_enter Try.func88, Try.ntmps88
  go_wp2
  go_region
  go_wp2
  go_end0
  exact ⟨rfl, (HR.out.alloc _).drew, chg_set_alloc.drew⟩

end Go.Proofs.Ytlheloogmgmjnaa

namespace Go.Proofs.Ytlheloogmgmjnaa
open Go.RowKit

structure InAt (w : World) (b : Nat) (recs : List PRec) (rcS : Sl) (ends : List Nat) (enS : Sl) : Prop where
  c2 : w.cell? ⟨b, 2, none⟩ = some (.slice rcS.a rcS.n rcS.c)
  c3 : w.cell? ⟨b, 3, none⟩ = some (.slice enS.a enS.n enS.c)
  rc : Own w 102 6 rcS (recs.flatMap PRec.row)
  rcn : rcS.n = recs.length
  en : Own w 3 1 enS (ints (nats ends))
  enn : enS.n = ends.length
  txns : recs.length ≤ 150
  ends1 : ends.length ≤ recs.length

theorem InAt.chg {w w' : World} {D : Nat → Prop} {b : Nat} {recs : List PRec} {rcS : Sl} {ends : List Nat} {enS : Sl} (h : InAt w b recs rcS ends enS) (hc : Chg w w' D) (hb : ¬ D b) (h1 : ∀ k ∈ rcS.blk, ¬ D k) (h2 : ∀ k ∈ enS.blk, ¬ D k) : InAt w' b recs rcS ends enS :=
  { h with c2 := cell_chg hc h.c2 hb, c3 := cell_chg hc h.c3 hb, rc := h.rc.chg hc h1, en := h.en.chg hc h2 }
theorem InAt.below {w w' : World} {b : Nat} {recs : List PRec} {rcS : Sl} {ends : List Nat} {enS : Sl} (h : InAt w b recs rcS ends enS) (hb : Below w.heap.size w w') : InAt w' b recs rcS ends enS :=
  h.chg (Chg.of_below hb (fun _ => False)) id (fun _ _ => id) (fun _ _ => id)

def lastOfN (ends : List Nat) (k : Nat) : Nat := if k = 0 then 0 else ends.getD (k - 1) 0
def wholeB (ends : List Nat) (n : Nat) : Nat := (ends.takeWhile (fun e => decide (e ≤ n))).length
def doneN (recs : List PRec) : Nat := (recs.takeWhile (·.ended)).length

theorem takeWhile_le {α : Type} (p : α → Bool) (l : List α) : (l.takeWhile p).length ≤ l.length := by
  induction l with
  | nil => simp
  | cons x l ih => rw [List.takeWhile_cons]; split <;> simp <;> omega
theorem takeWhile_lt {α : Type} (p : α → Bool) : ∀ (l : List α) (j : Nat), j < (l.takeWhile p).length → ∃ x, l[j]? = some x ∧ p x = true
  | [], j, h => by simp at h
  | x :: l, j, h => by
    rw [List.takeWhile_cons] at h
    split at h
    · rename_i hx
      cases j with
      | zero => exact ⟨x, rfl, hx⟩
      | succ j => exact takeWhile_lt p l j (by simpa using h)
    · simp at h
theorem takeWhile_stop {α : Type} (p : α → Bool) : ∀ (l : List α), (l.takeWhile p).length < l.length → ∃ x, l[(l.takeWhile p).length]? = some x ∧ p x = false
  | [], h => by simp at h
  | x :: l, h => by
    rw [List.takeWhile_cons] at h ⊢
    split
    · rename_i hx
      rw [if_pos hx] at h
      exact takeWhile_stop p l (by simpa using h)
    · rename_i hx
      exact ⟨x, rfl, by simpa using hx⟩

set_option maxHeartbeats 1000000 in
set_option maxRecDepth 100000 in
theorem ilastOf_gen {b : Nat} {recs : List PRec} {rcS : Sl} {ends : List Nat} {enS : Sl} (w : World) (h : InAt w b recs rcS ends enS) (k : Nat) (hk : k ≤ ends.length) :
    Calls Try.prog 70 #[.pointer (some ⟨b, 2, none⟩), .int .i64 k] w fun e w' => e = .returned (.int .i64 (lastOfN ends k)) ∧ w' = w := by
  have c3 := h.c3
  rw [h.enn] at c3
  have hI := h.en.ints
  have ht := h.txns
  have ht1 := h.ends1
  clear h
  by_cases h0 : k = 0
  · subst h0
    go_enter Try.func70, Try.ntmps70
    go_wp2
    go_ret
    exact ⟨ret_int (by simp [lastOfN]), rfl⟩
  · obtain ⟨b2, o, hb, hc, _⟩ := hI.at (k := k - 1) (by simp [nats]; omega)
    have hck := hc (k - 1) (by simp [nats]; omega)
    have hv : (nats ends).getD (k - 1) 0 = (ends.getD (k - 1) 0 : Nat) := by simp [nats, List.getD, List.getElem?_map]; rcases ends[k - 1]? <;> rfl
    rw [hv] at hck
    have HV := hide (show lastOfN ends k = ends.getD (k - 1) 0 by simp [lastOfN, h0])
    rw [hb] at c3
    generalize ends.getD (k - 1) 0 = v at *
    obtain ⟨j, rfl⟩ : ∃ j, k = j + 1 := ⟨k - 1, by omega⟩
    simp only [Nat.add_sub_cancel] at hck
    have hj0 : ¬ ((j : Int) + 1 = 0) := by omega
    clear hc hI hb hv h0
    go_enter Try.func70, Try.ntmps70
    go_wp2
    go_ret
    exact ⟨ret_int (by rw [HV.out]), rfl⟩

set_option maxHeartbeats 2000000 in
set_option maxRecDepth 100000 in
theorem iWhole_gen {b : Nat} {recs : List PRec} {rcS : Sl} {ends : List Nat} {enS : Sl} (w : World) (h : InAt w b recs rcS ends enS) (n : Nat) :
    Calls Try.prog 58 #[.pointer (some ⟨b, 2, none⟩), .int .i64 n] w fun e w' => e = .returned (.tuple #[.int .i64 (wholeB ends n), .int .i64 (lastOfN ends (wholeB ends n))]) ∧ w' = w := by
  have c3 := h.c3
  rw [h.enn] at c3
  have hI := h.en.ints
  have ht := h.txns
  have ht1 := h.ends1
  have hwl := takeWhile_le (fun e => decide (e ≤ n)) ends
  have LO := hide (ilastOf_gen w h (wholeB ends n) hwl)
  have hlt := fun j => takeWhile_lt (fun e => decide (e ≤ n)) ends j
  have hat := takeWhile_stop (fun e => decide (e ≤ n)) ends
  change wholeB ends n ≤ _ at hwl
  change ∀ j, j < wholeB ends n → _ at hlt
  change wholeB ends n < _ → ∃ x, ends[wholeB ends n]? = some x ∧ _ at hat
  generalize wholeB ends n = B at *
  generalize lastOfN ends B = L at *
  have hcell : ∀ j (x : Nat), ends[j]? = some x → ∃ b2 o, enS.a = some ⟨b2, o, none⟩ ∧ w.cell? ⟨b2, o + j, none⟩ = some (.int .i64 x) := by
    intro j x hx
    have hj : j < ends.length := by
      by_cases hb : j < ends.length
      · exact hb
      · rw [List.getElem?_eq_none (by omega)] at hx; cases hx
    obtain ⟨b2, o, hb, hc, _⟩ := hI.at (k := j) (by simp [nats]; omega)
    have hck := hc j (by simp [nats]; omega)
    have hv : (nats ends).getD j 0 = (x : Nat) := by simp [nats, List.getD, List.getElem?_map, hx]
    rw [hv] at hck
    exact ⟨b2, o, hb, hck⟩
  clear h hI
  go_enter Try.func58, Try.ntmps58
  go_wp2
  go_loop [4] (fun t => ∃ j : Nat, j ≤ B ∧ t = .int .i64 j) (fun t => B - (intOf t).toNat)
  case atStart => exact ⟨0, Nat.zero_le _, rfl⟩
  case round =>
    obtain ⟨j, hj, rfl⟩ := hrel
    have hwr : IntKind.i64.wrap ((j : Int) + 1) = ((j + 1 : Nat) : Int) := by rw [IntKind.wrap_i64]; omega
    by_cases hjB : j < B
    · obtain ⟨x, hx, hp⟩ := hlt j hjB
      obtain ⟨b2, o, hsa, hc⟩ := hcell j x hx
      have hl : decide ((j : Int) < (ends.length : Int)) = true := by simp; omega
      have hl' : (j : Int) < (ends.length : Int) := by omega
      have hd : decide (x ≤ n) = true := hp
      rw [hsa] at c3
      clear hcell hlt hat hsa hx hp
      go_wp2
      go_round
      case rel => exact ⟨j + 1, by omega, by go_num⟩
      case measure => simp [intOf]; omega
    · obtain rfl : j = B := by omega
      by_cases hjl : j < ends.length
      · obtain ⟨x, hx, hp⟩ := hat hjl
        obtain ⟨b2, o, hsa, hc⟩ := hcell j x hx
        have hl : decide ((j : Int) < (ends.length : Int)) = true := by simp; omega
        have hl' : (j : Int) < (ends.length : Int) := by omega
        have hd : decide (x ≤ n) = false := hp
        rw [hsa] at c3
        clear hcell hlt hat hsa hx hp
        go_wp2_with (go_at_call 70; refine LO.out.mono ?_; rintro e w' ⟨rfl, rfl⟩)
        go_ret2
        exact ⟨rfl, rfl⟩
      · have hl : decide ((j : Int) < (ends.length : Int)) = false := by simp; omega
        clear hcell hlt hat
        go_wp2_with (go_at_call 70; refine LO.out.mono ?_; rintro e w' ⟨rfl, rfl⟩)
        go_ret2
        exact ⟨rfl, rfl⟩

theorem recCells_get (l : List PRec) : ∀ (i : Nat) (r : PRec), l[i]? = some r → ∀ j v, r.row[j]? = some v → (l.flatMap PRec.row)[i * 6 + j]? = some v := by
  induction l with
  | nil => intro i r h; simp at h
  | cons x l ih =>
    intro i r h j v hv
    have hl : x.row.length = 6 := rfl
    have hj : j < r.row.length := by
      by_cases hb : j < r.row.length
      · exact hb
      · rw [List.getElem?_eq_none (by omega)] at hv; cases hv
    have hr : r.row.length = 6 := rfl
    rw [List.flatMap_cons]
    cases i with
    | zero =>
      simp at h; subst h
      rw [Nat.zero_mul, Nat.zero_add, List.getElem?_append_left (by omega)]; exact hv
    | succ i =>
      rw [List.getElem?_append_right (by omega), hl, show (i + 1) * 6 + j - 6 = i * 6 + j by omega]
      exact ih i r (by simpa using h) j v hv

theorem InAt.record {w : World} {b : Nat} {recs : List PRec} {rcS : Sl} {ends : List Nat} {enS : Sl} (h : InAt w b recs rcS ends enS) {i : Nat} {r : PRec} (hi : recs[i]? = some r) :
    ∃ g, rcS.a = some ⟨g, 0, none⟩ ∧ g < w.heap.size ∧ ∀ j v, r.row[j]? = some v → w.cell? ⟨g, i * 6 + j, none⟩ = some v := by
  obtain ⟨g, hg, c0⟩ := h.rc.cell (recCells_get recs i r hi 0 _ rfl)
  refine ⟨g, hg, lt_of_cell c0, fun j v hv => ?_⟩
  obtain ⟨g', hg', c⟩ := h.rc.cell (recCells_get recs i r hi j v hv)
  rw [hg] at hg'
  simp at hg'
  subst hg'
  exact c

set_option maxHeartbeats 2000000 in
set_option maxRecDepth 100000 in
theorem iDone_gen {b : Nat} {recs : List PRec} {rcS : Sl} {ends : List Nat} {enS : Sl} (w : World) (h : InAt w b recs rcS ends enS) :
    Calls Try.prog 33 #[.pointer (some ⟨b, 2, none⟩)] w fun e w' => e = .returned (.int .i64 (doneN recs)) ∧ w' = w := by
  have c2 := h.c2
  rw [h.rcn] at c2
  have ht := h.txns
  have hwl := takeWhile_le (·.ended) recs
  have hlt := fun j => takeWhile_lt (·.ended) recs j
  have hat := takeWhile_stop (·.ended) recs
  change doneN recs ≤ _ at hwl
  change ∀ j, j < doneN recs → _ at hlt
  change doneN recs < _ → ∃ x, recs[doneN recs]? = some x ∧ _ at hat
  generalize doneN recs = B at *
  have hcell : ∀ j (r : PRec), recs[j]? = some r → ∃ g, rcS.a = some ⟨g, 0, none⟩ ∧ w.cell? ⟨g, j * 6 + 3, none⟩ = some (.bool r.ended) := by
    intro j r hr
    obtain ⟨g, hg, _, hc⟩ := h.record hr
    exact ⟨g, hg, hc 3 _ rfl⟩
  clear h
  go_enter Try.func33, Try.ntmps33
  go_wp2
  go_loop [3] (fun t => ∃ j : Nat, j ≤ B ∧ t = .int .i64 j) (fun t => B - (intOf t).toNat)
  case atStart => exact ⟨0, Nat.zero_le _, rfl⟩
  case round =>
    obtain ⟨j, hj, rfl⟩ := hrel
    have hwr : IntKind.i64.wrap ((j : Int) + 1) = ((j + 1 : Nat) : Int) := by rw [IntKind.wrap_i64]; omega
    by_cases hjB : j < B
    · obtain ⟨x, hx, hp⟩ := hlt j hjB
      obtain ⟨g, hsa, hc⟩ := hcell j x hx
      rw [hp] at hc
      have hl : decide ((j : Int) < (recs.length : Int)) = true := by simp; omega
      have hl' : (j : Int) < (recs.length : Int) := by omega
      rw [hsa] at c2
      clear hcell hlt hat hsa hx hp
      go_wp2
      go_round
      case rel => exact ⟨j + 1, by omega, by go_num⟩
      case measure => simp [intOf]; omega
    · obtain rfl : j = B := by omega
      by_cases hjl : j < recs.length
      · obtain ⟨x, hx, hp⟩ := hat hjl
        obtain ⟨g, hsa, hc⟩ := hcell j x hx
        rw [hp] at hc
        have hl : decide ((j : Int) < (recs.length : Int)) = true := by simp; omega
        have hl' : (j : Int) < (recs.length : Int) := by omega
        rw [hsa] at c2
        clear hcell hlt hat hsa hx hp
        go_wp2
        go_ret
        exact ⟨rfl, rfl⟩
      · have hl : decide ((j : Int) < (recs.length : Int)) = false := by simp; omega
        clear hcell hlt hat
        go_wp2
        go_ret
        exact ⟨rfl, rfl⟩

set_option maxHeartbeats 1000000 in
theorem iMark_gen {b : Nat} {recs : List PRec} {rcS : Sl} {ends : List Nat} {enS : Sl} (w : World) (h : InAt w b recs rcS ends enS) :
    Calls Try.prog 34 #[.pointer (some ⟨b, 2, none⟩)] w fun e w' => e = .returned (.int .i64 (lastOfN ends (wholeB ends (doneN recs)))) ∧ w' = w := by
  have DN := hide (iDone_gen w h)
  have WH := hide (iWhole_gen w h (doneN recs))
  clear h
  go_enter Try.func34, Try.ntmps34
  go_wp2_with (first | (go_at_call 33; refine DN.out.mono ?_; rintro e w' ⟨rfl, rfl⟩) | (go_at_call 58; refine WH.out.mono ?_; rintro e w' ⟨rfl, rfl⟩))
  go_ret
  exact ⟨rfl, rfl⟩

set_option maxHeartbeats 2000000 in
set_option maxRecDepth 100000 in
theorem iTxn_gen {b : Nat} {recs : List PRec} {rcS : Sl} {ends : List Nat} {enS : Sl} (w : World) (h : InAt w b recs rcS ends enS) (n : Nat) (r : PRec) (hr : recs[n]? = some r) (hbl : b < w.heap.size) :
    Calls Try.prog 50 #[.pointer (some ⟨b, 2, none⟩), .int .i64 (n + 1 : Nat)] w fun e w' => e = .returned (.agg r.h.cells) ∧ Below w.heap.size w w' := by
  have c2 := h.c2
  rw [h.rcn] at c2
  have ht := h.txns
  obtain ⟨g, hg, hgl, hc⟩ := h.record hr
  have hn : n < recs.length := by
    by_cases hb : n < recs.length
    · exact hb
    · rw [List.getElem?_eq_none (by omega)] at hr; cases hr
  have d0 := hc 0 _ rfl
  have d1 := hc 1 _ rfl
  have d2 := hc 2 _ rfl
  rw [hg] at c2
  clear h hc hg hr
  obtain ⟨⟨⟨ra, rn, rc⟩, ⟨wa, wn, wc⟩, ⟨ca, cn, cc⟩⟩, en, ab, out⟩ := r
  simp only [Nat.add_zero] at d0 d1 d2
  have hn' : (n : Int) < (recs.length : Int) := by omega
  have hne : ¬ g = w.heap.size := by omega
  have hne2 : ¬ b = w.heap.size := by omega
  have hws : IntKind.i64.wrap (((n + 1 : Nat) : Int) - 1) = (n : Int) := by rw [IntKind.wrap_i64]; omega
  simp only [Int.natCast_add, Int.natCast_one] at hws ⊢
  go_enter Try.func50, Try.ntmps50
  go_wp2
  exact bodyPost_ret (v := .agg #[.slice ra rn rc, .slice wa wn wc, .slice ca cn cc]) (by simp [results, Try.results50, go_sem]) rfl ⟨rfl, below_alloc1 _ _⟩

end Go.Proofs.Ytlheloogmgmjnaa
