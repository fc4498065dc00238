import Derived.Test.YtlheloogmgmjnaaT10
import Derived.Test.YtlheloogmgmjnaaT04
import Derived.Test.YtlheloogmgmjnaaT03
import Derived.Deep.RegionHeld
import Derived.Test.YtlheloogmgmjnaaT07
namespace Go.Proofs.Ytlheloogmgmjnaa
open Go.RowKit

theorem wp_store_cell {P : Program} {op : Oper} {a : Act} {w : World} {K : Act → World → Prop} {Q : Exit → Act → World → Prop} (ty : TypeId) (x y : Operand) (ho : op.op = .store ty x y)
    (ad : Addr) (hx : a.eval x = .pointer (some ad)) (v : Value) (hy : a.eval y = v) (hrun : (storeVar ty ad v).run P w = .ok () (w.setCell ad v)) (h : K (a.put op.dst undef) (w.setCell ad v)) : op.wp P a w K Q := by
  unfold Oper.wp execOp
  simp only [ho, hx, hy, Instr.storeAt, Instr.sureAddr, Sem.run_bind, Sem.run_pure, Result.andThen_ok, hrun]
  exact h

set_option maxHeartbeats 2000000 in
set_option maxRecDepth 100000 in
theorem mdo_8 (a b : Nat) (c : Int) (g : Nat) (T : TypeId) (pre suf : List Value) (m : Mac) (w : World) (h : MacAt w g T pre suf m) (ha6 : a < 6) (hb6 : b < 6) :
    Calls Try.prog 88 #[.pointer (some ⟨g, pre.length, none⟩), .agg #[.int .i64 8, .int .i64 a, .int .i64 b, .int .i64 c]] w fun e w' =>
      e = .returned (.tuple #[]) ∧ MacAt w' g T pre suf { m with says := m.says.set a ⟨true, m.regs.getD b 0, true⟩ } ∧ Chg w w' (· = g) := by
  have hlt := h.row.lt
  have hB := h.cell (Mac.row_reg h.r6 hb6)
  generalize m.regs.getD b 0 = y at *
  obtain ⟨s, _, h1, h2, h3⟩ := Mac.row_say h.r6 h.s6 ha6
  replace h1 := h.cell h1
  replace h2 := h.cell h2
  replace h3 := h.cell h3
  have hf := h.frozen
  have hf0 := hf (10 + a * 3)
  have hf1 := hf (10 + a * 3 + 1)
  have hf2 := hf (10 + a * 3 + 2)
  clear hf
  have HR := hide (h.set3 ha6 ⟨true, y, true⟩)
  clear h
  simp only [← Nat.add_assoc] at hB h1 h2 h3 hf0 hf1 hf2 HR
  generalize pre.length = o at *
  have ha' : (a : Int) < 6 := by omega
  have hb' : (b : Int) < 6 := by omega
  go_enter Try.func88, Try.ntmps88
  go_wp2
  go_region
  go_wp2
  go_end0
  exact ⟨rfl, (HR.out.alloc _).drew, chg_set3_alloc.drew⟩

set_option maxHeartbeats 2000000 in
set_option maxRecDepth 100000 in
theorem mdo_9 (a : Nat) (b c : Int) (g : Nat) (T : TypeId) (pre suf : List Value) (m : Mac) (w : World) (h : MacAt w g T pre suf m) (ha6 : a < 6) :
    Calls Try.prog 88 #[.pointer (some ⟨g, pre.length, none⟩), .agg #[.int .i64 9, .int .i64 a, .int .i64 b, .int .i64 c]] w fun e w' =>
      e = .returned (.tuple #[]) ∧ MacAt w' g T pre suf { m with says := m.says.set a ⟨true, 0, false⟩ } ∧ Chg w w' (· = g) := by
  have hlt := h.row.lt
  obtain ⟨s, _, h1, h2, h3⟩ := Mac.row_say h.r6 h.s6 ha6
  replace h1 := h.cell h1
  replace h2 := h.cell h2
  replace h3 := h.cell h3
  have hf := h.frozen
  have hf0 := hf (10 + a * 3)
  have hf1 := hf (10 + a * 3 + 1)
  have hf2 := hf (10 + a * 3 + 2)
  clear hf
  have HR := hide (h.set3 ha6 ⟨true, 0, false⟩)
  clear h
  simp only [← Nat.add_assoc] at h1 h2 h3 hf0 hf1 hf2 HR
  generalize pre.length = o at *
  have ha' : (a : Int) < 6 := by omega
  go_enter Try.func88, Try.ntmps88
  go_wp2
  go_region
  go_wp2
  go_end0
  exact ⟨rfl, (HR.out.alloc _).drew, chg_set3_alloc.drew⟩

set_option maxHeartbeats 2000000 in
set_option maxRecDepth 100000 in
theorem mdo_10 (a b : Nat) (c : Int) (g : Nat) (T : TypeId) (pre suf : List Value) (m : Mac) (w : World) (h : MacAt w g T pre suf m) (ha6 : a < 6) (hb30 : b ≤ 30) (hn : m.next < 100) :
    Calls Try.prog 88 #[.pointer (some ⟨g, pre.length, none⟩), .agg #[.int .i64 10, .int .i64 a, .int .i64 b, .int .i64 c]] w fun e w' =>
      e = .returned (.tuple #[]) ∧ MacAt w' g T pre suf (if m.regs.getD a 0 = 0 then { m with next := m.next + b } else m) ∧ Chg w w' (· = g) := by
  have hlt := h.row.lt
  have hA := h.cell (Mac.row_reg h.r6 ha6)
  generalize m.regs.getD a 0 = x at *
  have hN := h.cell (i := 3) (v := .int .i64 m.next) rfl
  have hf := h.frozen 3
  have ha' : (a : Int) < 6 := by omega
  by_cases hx : x = 0
  · subst hx
    rw [if_pos rfl]
    have HR := hide (h.set1 (i := 3) (by omega) (Mac.row_set_next (m.next + b)) h.r6 h.s6)
    clear h
    rw [← Nat.add_assoc] at hA
    generalize pre.length = o at *
    generalize hm : m.next = mn at *
    have hwr : IntKind.i64.wrap ((mn : Int) + (b : Int)) = ((mn + b : Nat) : Int) := by rw [IntKind.wrap_i64]; omega
    go_enter Try.func88, Try.ntmps88
    go_wp2
    go_region
    go_wp2
    go_region
    go_wp2
    go_end0
    exact ⟨rfl, (HR.out.alloc _).drew.drew, chg_set_alloc.drew.drew⟩
  · rw [if_neg hx]
    have HR := hide h
    clear h
    rw [← Nat.add_assoc] at hA
    generalize pre.length = o at *
    go_enter Try.func88, Try.ntmps88
    go_wp2
    go_region
    go_wp2
    go_end0
    exact ⟨rfl, (HR.out.alloc _).drew, (Chg.of_below (below_alloc1 _ _) _).drew⟩

set_option maxHeartbeats 2000000 in
set_option maxRecDepth 100000 in
theorem mdo_11 (a b c : Int) (g : Nat) (T : TypeId) (pre suf : List Value) (m : Mac) (w : World) (h : MacAt w g T pre suf m) :
    Calls Try.prog 88 #[.pointer (some ⟨g, pre.length, none⟩), .agg #[.int .i64 11, .int .i64 a, .int .i64 b, .int .i64 c]] w fun e w' =>
      e = .returned (.tuple #[]) ∧ MacAt w' g T pre suf { m with ab := true } ∧ Chg w w' (· = g) := by
  have hlt := h.row.lt
  have hA := h.cell (Mac.row_ab h.r6 h.s6)
  have hf := h.frozen 28
  have HR := hide (h.set1 (i := 28) (by omega) (Mac.row_set_ab h.r6 h.s6 true) h.r6 h.s6)
  clear h
  generalize pre.length = o at *
  go_enter Try.func88, Try.ntmps88
  go_wp2
  go_end0
  exact ⟨rfl, HR.out.alloc _, chg_set_alloc⟩

end Go.Proofs.Ytlheloogmgmjnaa

namespace Go.Proofs.Ytlheloogmgmjnaa
open Go.RowKit

set_option maxHeartbeats 4000000 in
set_option maxRecDepth 100000 in
theorem mdo_5 (a b c : Nat) (g : Nat) (T : TypeId) (pre suf : List Value) (m : Mac) (w : World) (h : MacAt w g T pre suf m) (ha6 : a < 6) (hb6 : b < 6) (hc6 : c < 6) :
    Calls Try.prog 88 #[.pointer (some ⟨g, pre.length, none⟩), .agg #[.int .i64 5, .int .i64 a, .int .i64 b, .int .i64 c]] w fun e w' =>
      e = .returned (.tuple #[]) ∧ MacAt w' g T pre suf { m with regs := m.regs.set a (if m.regs.getD b 0 < m.regs.getD c 0 then 1 else 0) } ∧ Chg w w' (· = g) := by
  have hlt := h.row.lt
  have hA := h.cell (Mac.row_reg h.r6 ha6)
  have hB := h.cell (Mac.row_reg h.r6 hb6)
  have hC := h.cell (Mac.row_reg h.r6 hc6)
  generalize m.regs.getD b 0 = y at *
  generalize m.regs.getD c 0 = z at *
  generalize m.regs.getD a 0 = x at *
  have hf := h.frozen (4 + a)
  have HR := hide (fun v => h.set1 (i := 4 + a) (by omega) (Mac.row_set_reg h.r6 ha6 v) (by simp [h.r6]) h.s6)
  clear h
  simp only [← Nat.add_assoc] at hA hB hC hf HR
  generalize pre.length = o at *
  have ha' : (a : Int) < 6 := by omega
  have hb' : (b : Int) < 6 := by omega
  have hc' : (c : Int) < 6 := by omega
  go_enter Try.func88, Try.ntmps88
  go_wp2
  refine wp_region_U (L := #[true, true, true, true, true, true, true, true, true, true, true, true, true, true, true, true, true, true, true, true, true, true, false]) (S := (fun w' => w' = (w.alloc (.cells #[.int .i64 5, .int .i64 a, .int .i64 b, .int .i64 c] 51)).drew)) (by kernel_rfl) rfl ?_
  refine wpU_takeC (i := 0) (v := ?_) rfl (by kernel_rfl) (by kernel_rfl) (by kernel_rfl) (by kernel_rfl) (by kernel_rfl) (fun _ _ _ h => h) (by rfl) ?_ ?_
  rotate_left
  · intro wx hS; subst hS; refine lands_value ?_ rfl; go_simp <;> with_reducible rfl
  try simp only [List.getElem_toArray, List.getElem_cons_zero, Act.put, List.setIfInBounds_toArray, List.set_cons_zero, List.set_cons_succ]
  refine wpU_takeC (i := 1) (v := ?_) rfl (by kernel_rfl) (by kernel_rfl) (by kernel_rfl) (by kernel_rfl) (by kernel_rfl) (fun _ _ _ h => h) (by rfl) ?_ ?_
  rotate_left
  · intro wx hS; subst hS; refine lands_value ?_ rfl; go_simp <;> with_reducible rfl
  try simp only [List.getElem_toArray, List.getElem_cons_zero, List.getElem_cons_succ, Act.put, List.setIfInBounds_toArray, List.set_cons_zero, List.set_cons_succ]
  refine wpU_takeC (i := 2) (v := ?_) rfl (by kernel_rfl) (by kernel_rfl) (by kernel_rfl) (by kernel_rfl) (by kernel_rfl) (fun _ _ _ h => h) (by rfl) ?_ ?_
  rotate_left
  · intro wx hS; subst hS; refine lands_value ?_ rfl; go_simp <;> with_reducible rfl
  try simp only [List.getElem_toArray, List.getElem_cons_zero, List.getElem_cons_succ, Act.put, List.setIfInBounds_toArray, List.set_cons_zero, List.set_cons_succ]
  refine wpU_takeC (i := 3) (v := ?_) rfl (by kernel_rfl) (by kernel_rfl) (by kernel_rfl) (by kernel_rfl) (by kernel_rfl) (fun _ _ _ h => h) (by rfl) ?_ ?_
  rotate_left
  · intro wx hS; subst hS; refine lands_value ?_ rfl; go_simp <;> with_reducible rfl
  try simp only [List.getElem_toArray, List.getElem_cons_zero, List.getElem_cons_succ, Act.put, List.setIfInBounds_toArray, List.set_cons_zero, List.set_cons_succ]
  refine wpU_takeC (i := 4) (v := ?_) rfl (by kernel_rfl) (by kernel_rfl) (by kernel_rfl) (by kernel_rfl) (by kernel_rfl) (fun _ _ _ h => h) (by rfl) ?_ ?_
  rotate_left
  · intro wx hS; subst hS; refine lands_value ?_ rfl; go_simp <;> with_reducible rfl
  try simp only [List.getElem_toArray, List.getElem_cons_zero, List.getElem_cons_succ, Act.put, List.setIfInBounds_toArray, List.set_cons_zero, List.set_cons_succ]
  refine wpU_takeC (i := 5) (v := ?_) rfl (by kernel_rfl) (by kernel_rfl) (by kernel_rfl) (by kernel_rfl) (by kernel_rfl) (fun _ _ _ h => h) (by rfl) ?_ ?_
  rotate_left
  · intro wx hS; subst hS; refine lands_value ?_ rfl; go_simp <;> with_reducible rfl
  try simp only [List.getElem_toArray, List.getElem_cons_zero, List.getElem_cons_succ, Act.put, List.setIfInBounds_toArray, List.set_cons_zero, List.set_cons_succ]
  refine wpU_takeC (i := 6) (v := ?_) rfl (by kernel_rfl) (by kernel_rfl) (by kernel_rfl) (by kernel_rfl) (by kernel_rfl) (fun _ _ _ h => h) (by rfl) ?_ ?_
  rotate_left
  · intro wx hS; subst hS; refine lands_value ?_ rfl; go_simp <;> with_reducible rfl
  try simp only [List.getElem_toArray, List.getElem_cons_zero, List.getElem_cons_succ, Act.put, List.setIfInBounds_toArray, List.set_cons_zero, List.set_cons_succ]
  refine wpU_takeC (i := 7) (v := ?_) rfl (by kernel_rfl) (by kernel_rfl) (by kernel_rfl) (by kernel_rfl) (by kernel_rfl) (fun _ _ _ h => h) (by rfl) ?_ ?_
  rotate_left
  · intro wx hS; subst hS; refine lands_value ?_ rfl; go_simp <;> with_reducible rfl
  try simp only [List.getElem_toArray, List.getElem_cons_zero, List.getElem_cons_succ, Act.put, List.setIfInBounds_toArray, List.set_cons_zero, List.set_cons_succ]
  refine wpU_takeC (i := 8) (v := ?_) rfl (by kernel_rfl) (by kernel_rfl) (by kernel_rfl) (by kernel_rfl) (by kernel_rfl) (fun _ _ _ h => h) (by rfl) ?_ ?_
  rotate_left
  · intro wx hS; subst hS; refine lands_value ?_ rfl; go_simp <;> with_reducible rfl
  try simp only [List.getElem_toArray, List.getElem_cons_zero, List.getElem_cons_succ, Act.put, List.setIfInBounds_toArray, List.set_cons_zero, List.set_cons_succ]
  refine wpU_takeC (i := 9) (v := ?_) rfl (by kernel_rfl) (by kernel_rfl) (by kernel_rfl) (by kernel_rfl) (by kernel_rfl) (fun _ _ _ h => h) (by rfl) ?_ ?_
  rotate_left
  · intro wx hS; subst hS; refine lands_value ?_ rfl; go_simp <;> with_reducible rfl
  try simp only [List.getElem_toArray, List.getElem_cons_zero, List.getElem_cons_succ, Act.put, List.setIfInBounds_toArray, List.set_cons_zero, List.set_cons_succ]
  refine wpU_takeC (i := 10) (v := ?_) rfl (by kernel_rfl) (by kernel_rfl) (by kernel_rfl) (by kernel_rfl) (by kernel_rfl) (fun _ _ _ h => h) (by rfl) ?_ ?_
  rotate_left
  · intro wx hS; subst hS; refine lands_value ?_ rfl; go_simp <;> with_reducible rfl
  try simp only [List.getElem_toArray, List.getElem_cons_zero, List.getElem_cons_succ, Act.put, List.setIfInBounds_toArray, List.set_cons_zero, List.set_cons_succ]
  refine wpU_takeC (i := 11) (v := ?_) rfl (by kernel_rfl) (by kernel_rfl) (by kernel_rfl) (by kernel_rfl) (by kernel_rfl) (fun _ _ _ h => h) (by rfl) ?_ ?_
  rotate_left
  · intro wx hS; subst hS; refine lands_value ?_ rfl; go_simp <;> with_reducible rfl
  try simp only [List.getElem_toArray, List.getElem_cons_zero, List.getElem_cons_succ, Act.put, List.setIfInBounds_toArray, List.set_cons_zero, List.set_cons_succ]
  refine wpU_takeC (i := 12) (v := ?_) rfl (by kernel_rfl) (by kernel_rfl) (by kernel_rfl) (by kernel_rfl) (by kernel_rfl) (fun _ _ _ h => h) (by rfl) ?_ ?_
  rotate_left
  · intro wx hS; subst hS; refine lands_value ?_ rfl; go_simp <;> with_reducible rfl
  try simp only [List.getElem_toArray, List.getElem_cons_zero, List.getElem_cons_succ, Act.put, List.setIfInBounds_toArray, List.set_cons_zero, List.set_cons_succ]
  refine wpU_takeC (i := 13) (v := ?_) rfl (by kernel_rfl) (by kernel_rfl) (by kernel_rfl) (by kernel_rfl) (by kernel_rfl) (fun _ _ _ h => h) (by rfl) ?_ ?_
  rotate_left
  · intro wx hS; subst hS; refine lands_value ?_ rfl; go_simp <;> with_reducible rfl
  try simp only [List.getElem_toArray, List.getElem_cons_zero, List.getElem_cons_succ, Act.put, List.setIfInBounds_toArray, List.set_cons_zero, List.set_cons_succ]
  refine wpU_takeC (i := 14) (v := ?_) rfl (by kernel_rfl) (by kernel_rfl) (by kernel_rfl) (by kernel_rfl) (by kernel_rfl) (fun _ _ _ h => h) (by rfl) ?_ ?_
  rotate_left
  · intro wx hS; subst hS; refine lands_value ?_ rfl; go_simp <;> with_reducible rfl
  try simp only [List.getElem_toArray, List.getElem_cons_zero, List.getElem_cons_succ, Act.put, List.setIfInBounds_toArray, List.set_cons_zero, List.set_cons_succ]
  refine wpU_takeC (i := 15) (v := ?_) rfl (by kernel_rfl) (by kernel_rfl) (by kernel_rfl) (by kernel_rfl) (by kernel_rfl) (fun _ _ _ h => h) (by rfl) ?_ ?_
  rotate_left
  · intro wx hS; subst hS; refine lands_value ?_ rfl; go_simp <;> with_reducible rfl
  try simp only [List.getElem_toArray, List.getElem_cons_zero, List.getElem_cons_succ, Act.put, List.setIfInBounds_toArray, List.set_cons_zero, List.set_cons_succ]
  refine wpU_takeC (i := 16) (v := ?_) rfl (by kernel_rfl) (by kernel_rfl) (by kernel_rfl) (by kernel_rfl) (by kernel_rfl) (fun _ _ _ h => h) (by rfl) ?_ ?_
  rotate_left
  · intro wx hS; subst hS; refine lands_value ?_ rfl; go_simp <;> with_reducible rfl
  try simp only [List.getElem_toArray, List.getElem_cons_zero, List.getElem_cons_succ, Act.put, List.setIfInBounds_toArray, List.set_cons_zero, List.set_cons_succ]
  refine wpU_takeC (i := 17) (v := ?_) rfl (by kernel_rfl) (by kernel_rfl) (by kernel_rfl) (by kernel_rfl) (by kernel_rfl) (fun _ _ _ h => h) (by rfl) ?_ ?_
  rotate_left
  · intro wx hS; subst hS; refine lands_value ?_ rfl; go_simp <;> with_reducible rfl
  try simp only [List.getElem_toArray, List.getElem_cons_zero, List.getElem_cons_succ, Act.put, List.setIfInBounds_toArray, List.set_cons_zero, List.set_cons_succ]
  refine wpU_takeC (i := 18) (v := .int .i64 (if decide (y < z) = true then 1 else 0)) rfl (by kernel_rfl) (by kernel_rfl) (by kernel_rfl) (by kernel_rfl) (by kernel_rfl) (fun _ _ _ h => h) (by rfl) ?_ ?_
  · intro wx hS; subst hS; refine lands_enter (w := (w.alloc (.cells #[.int .i64 5, .int .i64 a, .int .i64 b, .int .i64 c] 51)).drew) (f := 95) (args := #[.bool (decide (y < z))]) (by go_simp) ?_; refine (moneIf_any (decide (y < z)) _).mono ?_; rintro e w2 ⟨rfl, rfl⟩; exact ⟨rfl, rfl⟩
  try simp only [List.getElem_toArray, List.getElem_cons_zero, List.getElem_cons_succ, Act.put, List.setIfInBounds_toArray, List.set_cons_zero, List.set_cons_succ]
  refine wpU_takeC (i := 19) (v := ?_) rfl (by kernel_rfl) (by kernel_rfl) (by kernel_rfl) (by kernel_rfl) (by kernel_rfl) (fun _ _ _ h => h) (by rfl) ?_ ?_
  rotate_left
  · intro wx hS; subst hS; refine lands_value ?_ rfl; go_simp <;> with_reducible rfl
  try simp only [List.getElem_toArray, List.getElem_cons_zero, List.getElem_cons_succ, Act.put, List.setIfInBounds_toArray, List.set_cons_zero, List.set_cons_succ]
  refine wpU_takeC (i := 20) (v := ?_) rfl (by kernel_rfl) (by kernel_rfl) (by kernel_rfl) (by kernel_rfl) (by kernel_rfl) (fun _ _ _ h => h) (by rfl) ?_ ?_
  rotate_left
  · intro wx hS; subst hS; refine lands_value ?_ rfl; go_simp <;> with_reducible rfl
  try simp only [List.getElem_toArray, List.getElem_cons_zero, List.getElem_cons_succ, Act.put, List.setIfInBounds_toArray, List.set_cons_zero, List.set_cons_succ]
  refine wpU_takeC (i := 21) (v := ?_) rfl (by kernel_rfl) (by kernel_rfl) (by kernel_rfl) (by kernel_rfl) (by kernel_rfl) (fun _ _ _ h => h) (by rfl) ?_ ?_
  rotate_left
  · intro wx hS; subst hS; refine lands_value ?_ rfl; go_simp <;> with_reducible rfl
  try simp only [List.getElem_toArray, List.getElem_cons_zero, List.getElem_cons_succ, Act.put, List.setIfInBounds_toArray, List.set_cons_zero, List.set_cons_succ]
  refine wpU_leaf' _ (by kernel_rfl) ?_
  intro wx hS
  refine wpAny_last (n := 22) (by kernel_rfl) (by kernel_rfl) rfl (by rfl) ?_
  subst hS
  refine wp_store_cell 3 (.tmp 108) (.tmp 105) rfl ⟨g, o + 4 + a, none⟩ rfl (.int .i64 (if decide (y < z) = true then 1 else 0)) rfl (by go_simp) ?_
  simp only [Act.put]
  go_wp2
  all_goals go_end0
  all_goals exact ⟨rfl, ((HR.out _).alloc _).drew, chg_set_alloc.drew⟩

end Go.Proofs.Ytlheloogmgmjnaa

namespace Go.Proofs.Ytlheloogmgmjnaa
open Go.RowKit

/-- What an instruction that looks at no key does. -/
def mdo (m : Mac) (x : Ins) : Mac :=
  if x.op = 8 then { m with says := m.says.set x.a.toNat ⟨true, regOf m.regs x.b, true⟩ }
  else if x.op = 9 then { m with says := m.says.set x.a.toNat ⟨true, 0, false⟩ }
  else if x.op = 10 then (if regOf m.regs x.a = 0 then { m with next := m.next + x.b.toNat } else m)
  else if x.op = 11 then { m with ab := true }
  else { m with regs := (oneStep x [] [] m.regs []).1 }

set_option maxHeartbeats 1000000 in
theorem mdo_any (x : Ins) (nr nw : Int) (hnw : nw ≤ 6) (hs : soundB x nr nw = true) (h67 : ¬ (x.op = 6 ∨ x.op = 7)) (g : Nat) (T : TypeId) (pre suf : List Value) (m : Mac) (hn : m.next < 100) (w : World) (h : MacAt w g T pre suf m) :
    Calls Try.prog 88 #[.pointer (some ⟨g, pre.length, none⟩), x.val] w fun e w' =>
      e = .returned (.tuple #[]) ∧ MacAt w' g T pre suf (mdo m x) ∧ Chg w w' (· = g) := by
  obtain ⟨h1, h11, hA, hB, hC, _, hS, hK⟩ := soundB_cases hs
  obtain ⟨op, a, b, c⟩ := x
  simp only at h1 h11 hA hB hC hS hK h67
  have nat : ∀ {z : Int}, 0 ≤ z → ∃ n : Nat, z = n := fun h => ⟨_, (Int.toNat_of_nonneg h).symm⟩
  have hcase : op = 1 ∨ op = 2 ∨ op = 3 ∨ op = 4 ∨ op = 5 ∨ op = 8 ∨ op = 9 ∨ op = 10 ∨ op = 11 := by omega
  rcases hcase with rfl | rfl | rfl | rfl | rfl | rfl | rfl | rfl | rfl
  · obtain ⟨a, rfl⟩ := nat (hA (by omega)).1
    exact (mdo_1 a b c g T pre suf m w h (by have := hA (by omega); omega)).mono fun e w' h => h
  · obtain ⟨a, rfl⟩ := nat (hA (by omega)).1
    obtain ⟨b, rfl⟩ := nat (hB (by omega)).1
    obtain ⟨c, rfl⟩ := nat (hC (by omega)).1
    exact (mdo_2 a b c g T pre suf m w h (by have := hA (by omega); omega) (by have := hB (by omega); omega) (by have := hC (by omega); omega)).mono fun e w' h => h
  · obtain ⟨a, rfl⟩ := nat (hA (by omega)).1
    obtain ⟨b, rfl⟩ := nat (hB (by omega)).1
    obtain ⟨c, rfl⟩ := nat (hC (by omega)).1
    exact (mdo_3 a b c g T pre suf m w h (by have := hA (by omega); omega) (by have := hB (by omega); omega) (by have := hC (by omega); omega)).mono fun e w' h => h
  · obtain ⟨a, rfl⟩ := nat (hA (by omega)).1
    obtain ⟨b, rfl⟩ := nat (hB (by omega)).1
    obtain ⟨c, rfl⟩ := nat (hC (by omega)).1
    exact (mdo_4 a b c g T pre suf m w h (by have := hA (by omega); omega) (by have := hB (by omega); omega) (by have := hC (by omega); omega)).mono fun e w' h => h
  · obtain ⟨a, rfl⟩ := nat (hA (by omega)).1
    obtain ⟨b, rfl⟩ := nat (hB (by omega)).1
    obtain ⟨c, rfl⟩ := nat (hC (by omega)).1
    exact (mdo_5 a b c g T pre suf m w h (by have := hA (by omega); omega) (by have := hB (by omega); omega) (by have := hC (by omega); omega)).mono fun e w' h => h
  · obtain ⟨a, rfl⟩ := nat (hS (by omega)).1
    obtain ⟨b, rfl⟩ := nat (hB (by omega)).1
    exact (mdo_8 a b c g T pre suf m w h (by have := hS (by omega); omega) (by have := hB (by omega); omega)).mono fun e w' h => h
  · obtain ⟨a, rfl⟩ := nat (hS (by omega)).1
    exact (mdo_9 a b c g T pre suf m w h (by have := hS (by omega); omega)).mono fun e w' h => h
  · obtain ⟨a, rfl⟩ := nat (hA (by omega)).1
    obtain ⟨b, rfl⟩ := nat (show (0 : Int) ≤ b by have := hK (by omega); omega)
    exact (mdo_10 a b c g T pre suf m w h (by have := hA (by omega); omega) (by have := hK (by omega); omega) hn).mono fun e w' h => h
  · exact (mdo_11 a b c g T pre suf m w h).mono fun e w' h => h

theorem mdo_h (m : Mac) (x : Ins) : (mdo m x).h = m.h := by
  unfold mdo; repeat' split
  all_goals rfl

set_option maxHeartbeats 400000 in
theorem mseen_load (v : Int) (th : Bool) (w : World) :
    Calls Try.prog 87 #[.int .i64 6, .agg #[.int .i64 v, .bool th]] w fun e w' => e = .returned (.int .i64 v) ∧ Below w.heap.size w w' := by
  go_enter Try.func87, Try.ntmps87
  go_wp2
  go_ret
  exact ⟨rfl, below_alloc1 _ _⟩

set_option maxHeartbeats 400000 in
theorem mseen_has (v : Int) (th : Bool) (w : World) :
    Calls Try.prog 87 #[.int .i64 7, .agg #[.int .i64 v, .bool th]] w fun e w' => e = .returned (.int .i64 (if th then 1 else 0)) ∧ Below w.heap.size w w' := by
  cases th
  · go_enter Try.func87, Try.ntmps87
    go_wp2_with (go_at_call 95; refine (moneIf_any false _).mono ?_; rintro e w' ⟨rfl, rfl⟩)
    go_ret
    exact ⟨rfl, below_alloc1 _ _⟩
  · go_enter Try.func87, Try.ntmps87
    go_wp2_with (go_at_call 95; refine (moneIf_any true _).mono ?_; rintro e w' ⟨rfl, rfl⟩)
    go_ret
    exact ⟨rfl, below_alloc1 _ _⟩

set_option maxHeartbeats 400000 in
theorem mEnded_any (g : Nat) (T : TypeId) (pre suf : List Value) (m : Mac) (w : World) (h : MacAt w g T pre suf m) :
    Calls Try.prog 89 #[.pointer (some ⟨g, pre.length, none⟩)] w fun e w' => e = .returned (.bool (m.ab || decide (m.h.c.n ≤ m.next))) ∧ ∃ n, w' = w.drewN n := by
  have hA := h.cell (Mac.row_ab h.r6 h.s6)
  have hN := h.cell (i := 3) (v := .int .i64 m.next) rfl
  have hC := h.cell (i := 2) (v := .slice m.h.c.a m.h.c.n m.h.c.c) rfl
  clear h
  generalize pre.length = o at *
  generalize m.ab = ab at *
  generalize m.next = nx at *
  generalize m.h.c = hc at *
  cases ab
  · go_enter Try.func89, Try.ntmps89
    go_wp2
    go_quiet (fail)
    go_wp2
    go_ret
    exact ⟨ret_bool (by simp), _, rfl⟩
  · go_enter Try.func89, Try.ntmps89
    go_wp2
    go_quiet (fail)
    go_wp2
    go_ret
    exact ⟨rfl, _, rfl⟩

set_option maxHeartbeats 1000000 in
set_option maxRecDepth 100000 in
theorem mResult_any (g : Nat) (T : TypeId) (pre suf : List Value) (m : Mac) (w : World) (h : MacAt w g T pre suf m) :
    Calls Try.prog 93 #[.pointer (some ⟨g, pre.length, none⟩)] w fun e w' => e = .returned (.agg #[.bool m.ab, .int .i64 (m.regs.getD 0 0)]) ∧ Below w.heap.size w w' := by
  have hA := h.cell (Mac.row_ab h.r6 h.s6)
  have hR := h.cell (Mac.row_reg h.r6 (show 0 < 6 by omega))
  have hlt := h.row.lt
  clear h
  rw [show pre.length + (4 + 0) = pre.length + 4 by omega] at hR
  generalize pre.length = o at *
  generalize m.ab = ab at *
  generalize m.regs.getD 0 0 = x at *
  have hne : ¬ g = w.heap.size := by omega
  go_enter Try.func93, Try.ntmps93
  go_wp2
  go_region
  go_wp2
  exact bodyPost_ret (v := .agg #[.bool ab, .int .i64 x]) (by simp [results, Try.results93, go_sem]) rfl ⟨rfl, (below_alloc1 _ _).drew⟩

/-- What a machine that has ended says of the i-th key. -/
def Mac.said (m : Mac) (i : Nat) : Say := if m.ab then ⟨false, 0, false⟩ else m.says.getD i ⟨false, 0, false⟩

set_option maxHeartbeats 1000000 in
set_option maxRecDepth 100000 in
theorem mSaid_any (g : Nat) (T : TypeId) (pre suf : List Value) (m : Mac) (w : World) (h : MacAt w g T pre suf m) (i : Nat) (hi : i < 6) :
    Calls Try.prog 90 #[.pointer (some ⟨g, pre.length, none⟩), .int .i64 i] w fun e w' => e = .returned (.tuple #[.agg #[.int .i64 (m.said i).v, .bool (m.said i).th], .bool (m.said i).said]) ∧ Below w.heap.size w w' := by
  have hA := h.cell (Mac.row_ab h.r6 h.s6)
  obtain ⟨s, h0, h1, h2, h3⟩ := Mac.row_say h.r6 h.s6 hi
  replace h1 := h.cell h1
  replace h2 := h.cell h2
  replace h3 := h.cell h3
  have hlt := h.row.lt
  have hg : m.says.getD i ⟨false, 0, false⟩ = s := by rw [List.getD, h0]; rfl
  clear h h0
  unfold Mac.said
  rw [hg]
  simp only [← Nat.add_assoc] at h1 h2 h3
  generalize pre.length = o at *
  generalize m.ab = ab at *
  have hne : ¬ g = w.heap.size := by omega
  have hi' : (i : Int) < 6 := by omega
  obtain ⟨sd, v, th⟩ := s
  cases ab
  · simp only [if_false, Bool.false_eq_true]
    go_enter Try.func90, Try.ntmps90
    go_wp2
    go_region
    go_wp2
    exact bodyPost_ret (v := .tuple #[.agg #[.int .i64 v, .bool th], .bool sd]) (by simp [results, Try.results90, go_sem]) rfl ⟨rfl, (below_alloc1 _ _).drew⟩
  · simp only [if_true]
    go_enter Try.func90, Try.ntmps90
    go_wp2
    exact bodyPost_ret (v := .tuple #[.agg #[.int .i64 0, .bool false], .bool false]) (by simp [results, Try.results90, go_sem]) rfl ⟨rfl, below_alloc1 _ _⟩

end Go.Proofs.Ytlheloogmgmjnaa

namespace Go.Proofs.Ytlheloogmgmjnaa
open Go.RowKit

theorem checkN_ins {t : Tx} (h : checkN t = 0) {k : Nat} (hk : k < t.c.length) : soundB (t.c.getD k Ins.zero) t.r.length t.w.length = true := by
  have := (checkN_sound t h).2.2.2.2.2
  rw [List.getD, List.getElem?_eq_getElem hk]
  exact this _ (List.getElem_mem hk)

set_option maxHeartbeats 4000000 in
set_option maxRecDepth 100000 in
theorem mStep_do (t : Tx) (hk : checkN t = 0) (g : Nat) (T : TypeId) (pre suf : List Value) (m : Mac) (w : World) (h : MacAt w g T pre suf m) (hx : TxAt w m.h t) (hn : m.next < t.c.length)
    (h67 : ¬ ((t.c.getD m.next Ins.zero).op = 6 ∨ (t.c.getD m.next Ins.zero).op = 7)) (lk : Value) :
    Calls Try.prog 74 #[.pointer (some ⟨g, pre.length, none⟩), lk] w fun e w' =>
      e = .returned (.bool true) ∧ MacAt w' g T pre suf { mdo m (t.c.getD m.next Ins.zero) with next := (mdo m (t.c.getD m.next Ins.zero)).next + 1 } ∧ Chg w w' (· = g) := by
  have hcl := (checkN_sound t hk).1
  have hwl := (checkN_sound t hk).2.2.1
  have MD := hide (fun wx (hb : Below w.heap.size w wx) => mdo_any (t.c.getD m.next Ins.zero) _ _ (show ((t.w.length : Nat) : Int) ≤ 6 by omega) (checkN_ins hk hn) h67 g T pre suf m (by omega) wx (h.below' hb))
  have hlt := h.row.lt
  have hN := h.cell (i := 3) (v := .int .i64 m.next) rfl
  have hC := h.cell (i := 2) (v := .slice m.h.c.a m.h.c.n m.h.c.c) rfl
  rw [hx.cl] at hC
  obtain ⟨bc, oc, hbc, hcc, hbl⟩ := hx.ci.at hn
  obtain ⟨k0, k1, k2, k3⟩ := hcc m.next hn
  rw [hbc] at hC
  have hnx : (mdo m (t.c.getD m.next Ins.zero)).next ≤ 60 := by
    have hK := (soundB_cases (checkN_ins hk hn)).2.2.2.2.2.2.2
    unfold mdo
    repeat' split
    all_goals first | (show m.next ≤ 60; omega) | (have := hK (by assumption); show m.next + _ ≤ 60; omega)
  clear hcc hbc h hx hk
  generalize t.c.getD m.next Ins.zero = x at *
  generalize hm2 : mdo m x = m2 at *
  clear hm2
  obtain ⟨op, a, b, c⟩ := x
  simp only [not_or] at h67 k0 k1 k2 k3
  obtain ⟨h6, h7⟩ := h67
  have e6 : (op == 6) = false := by simp [h6]
  have e7 : (op == 7) = false := by simp [h7]
  have hn' : (m.next : Int) < (t.c.length : Int) := by omega
  generalize m.next = nx at *
  generalize t.c.length = cl at *
  generalize m.h.c.c = ccap at *
  have hnb : ¬ bc = w.heap.size := by omega
  go_enter Try.func74, Try.ntmps74
  go_wp2
  go_region
  go_wp2_with fail
  refine (MD.out _ (below_drewN (below_alloc1 _ _) 1)).mono ?_
  rintro e w2 ⟨rfl, M2, C2⟩
  have hN2 := M2.cell (i := 3) (v := .int .i64 m2.next) rfl
  have hf2 := M2.frozen 3
  have HR := hide (M2.set1 (i := 3) (by omega) (Mac.row_set_next (m2.next + 1)) M2.r6 M2.s6)
  have HC := hide ((Chg.of_below (below_drewN (below_alloc1 _ _) 1) (· = g)).trans C2)
  have hlt2 := M2.row.lt
  clear M2 C2 MD hN hC k0 k1 k2 k3
  have hwr : IntKind.i64.wrap ((m2.next : Int) + 1) = ((m2.next + 1 : Nat) : Int) := by rw [IntKind.wrap_i64]; omega
  go_wp2
  go_ret
  exact ⟨rfl, HR.out, HC.out.trans (Chg.setCell _ _ _)⟩

end Go.Proofs.Ytlheloogmgmjnaa

namespace Go.Proofs.Ytlheloogmgmjnaa
open Go.RowKit

theorem contentRow_oneCell (v : Int) (th : Bool) : ∀ u ∈ ([.int .i64 v, .bool th] : List Value), u.oneCell' = true := by
  intro u hu
  simp only [List.mem_cons, List.not_mem_nil, or_false] at hu
  rcases hu with h | h <;> subst h <;> rfl
theorem cell_on {w w' : World} {b o : Nat} {v : Value} (h : w.cell? ⟨b, o, none⟩ = some v) (hb : Below w.heap.size w w') : w'.cell? ⟨b, o, none⟩ = some v := cell_below hb (Nat.le_refl _) h

/-- A new variable, in a region: the world behind it and its address are letters. -/
theorem wp_alloc_let {P : Program} {op : Oper} {a : Act} {w : World} {K : Act → World → Prop} {Q : Exit → Act → World → Prop} (ty : TypeId) (ho : op.op = .alloc ty) (z : Value) (zs : List Value)
    (hz : (P.info? ty).bind (·.zero) = some z) (hc : z.cells = zs.toArray)
    (h : ∀ w' g, g = w.heap.size → RowAt w' g ty zs → Below w.heap.size w w' → w'.heap.size = w.heap.size + 1 → K (a.put op.dst (.pointer (some ⟨g, 0, none⟩))) w') : op.wp P a w K Q :=
  wp_alloc_row ty ho z zs hz hc (fun w' h1 h2 h3 => h w' _ rfl h1 h2 h3)

set_option maxHeartbeats 4000000 in
set_option maxRecDepth 100000 in
theorem mStep_look (t : Tx) (hk : checkN t = 0) (g : Nat) (T : TypeId) (pre suf : List Value) (m : Mac) (w : World) (h : MacAt w g T pre suf m) (hx : TxAt w m.h t) (hn : m.next < t.c.length)
    (h67 : (t.c.getD m.next Ins.zero).op = 6 ∨ (t.c.getD m.next Ins.zero).op = 7) (q0 q1 q2 : Addr) (v : Int) (th known : Bool)
    (LK : ∀ wx, Below w.heap.size w wx → Calls Try.prog 72 #[.int .i64 (t.r.getD (t.c.getD m.next Ins.zero).b.toNat 0), .pointer (some q0), .pointer (some q1), .pointer (some q2)] wx fun e w' => e = .returned (.tuple #[.agg #[.int .i64 v, .bool th], .bool known]) ∧ Below wx.heap.size wx w') :
    Calls Try.prog 74 #[.pointer (some ⟨g, pre.length, none⟩), .func (.func 72) #[] #[.pointer (some q0), .pointer (some q1), .pointer (some q2)]] w fun e w' =>
      e = .returned (.bool known) ∧ (known = false → Below w.heap.size w w') ∧
      (known = true → MacAt w' g T pre suf { m with regs := m.regs.set (t.c.getD m.next Ins.zero).a.toNat (if (t.c.getD m.next Ins.zero).op = 6 then v else if th then 1 else 0), next := m.next + 1 } ∧ Chg w w' (· = g)) := by
  have hcl := (checkN_sound t hk).1
  have hrl := (checkN_sound t hk).2.1
  have H := hide h
  have hlt := h.row.lt
  have hN := h.cell (i := 3) (v := .int .i64 m.next) rfl
  have hC := h.cell (i := 2) (v := .slice m.h.c.a m.h.c.n m.h.c.c) rfl
  have hR := h.cell (i := 0) (v := .slice m.h.r.a m.h.r.n m.h.r.c) rfl
  rw [hx.cl] at hC
  rw [hx.rl] at hR
  obtain ⟨bc, oc, hbc, hcc, hbl⟩ := hx.ci.at hn
  obtain ⟨k0, k1, k2, k3⟩ := hcc m.next hn
  rw [hbc] at hC
  obtain ⟨-, -, hA, -, -, hB, -, -⟩ := soundB_cases (checkN_ins hk hn)
  replace hB := hB h67
  replace hA := hA (by omega)
  obtain ⟨br, orr, hbr, hcr, hbrl⟩ := hx.ri.at (k := (t.c.getD m.next Ins.zero).b.toNat) (by omega)
  have r0 := hcr (t.c.getD m.next Ins.zero).b.toNat (by omega)
  rw [hbr] at hR
  replace LK := hide LK
  clear hcc hbc hcr hbr h hx hk
  generalize t.r.getD (t.c.getD m.next Ins.zero).b.toNat 0 = key at *
  generalize t.c.getD m.next Ins.zero = x at *
  obtain ⟨op, a, b, c⟩ := x
  simp only at h67 k0 k1 k2 k3 hA hB r0 LK ⊢
  obtain ⟨an, rfl⟩ : ∃ n : Nat, a = n := ⟨a.toNat, (Int.toNat_of_nonneg hA.1).symm⟩
  obtain ⟨bn, rfl⟩ : ∃ n : Nat, b = n := ⟨b.toNat, (Int.toNat_of_nonneg hB.1).symm⟩
  simp only [Int.toNat_natCast] at r0 ⊢
  have hn' : (m.next : Int) < (t.c.length : Int) := by omega
  have hb' : (bn : Int) < (t.r.length : Int) := by omega
  have ha' : (an : Int) < 6 := by omega
  have hnb : ¬ bc = w.heap.size := by omega
  have hnb2 : ¬ br = w.heap.size := by omega
  have B0 := hide (below_alloc1 w (.cells #[.int .i64 op, .int .i64 an, .int .i64 bn, .int .i64 c] 51)).drew
  rw [Nat.add_zero] at hR
  have e67 : (op == 6 || op == 7) = true := by rcases h67 with h | h <;> simp [h]
  rcases h67 with rfl | rfl
  · skip
    go_enter Try.func74, Try.ntmps74
    go_wp2
    go_region
    go_wp2_with fail
    have HX := hide (rowAt_alloc w [.int .i64 6, .int .i64 an, .int .i64 bn, .int .i64 c] 51).drew
    change Hid (RowAt (w.alloc (.cells #[.int .i64 6, .int .i64 an, .int .i64 bn, .int .i64 c] 51)).drew w.heap.size 51 [.int .i64 6, .int .i64 an, .int .i64 bn, .int .i64 c]) at HX
    have HM := hide (H.out.below' B0.out)
    have r1 := cell_on r0 B0.out
    have hR1 := cell_on hR B0.out
    have hltW : w.heap.size < (w.alloc (.cells #[.int .i64 6, .int .i64 an, .int .i64 bn, .int .i64 c] 51)).drew.heap.size := HX.out.lt
    clear hN hC hR r0 k0 k1 k2 k3 H
    generalize (w.alloc (.cells #[.int .i64 6, .int .i64 an, .int .i64 bn, .int .i64 c] 51)).drew = W at *
    have KL : Hid (∀ w', Below W.heap.size W w' → (w'.cell? ⟨g, pre.length, none⟩ = some (.slice (some ⟨br, orr, none⟩) t.r.length m.h.r.c) ∧ w'.cell? ⟨w.heap.size, 2, none⟩ = some (.int .i64 bn) ∧ w'.cell? ⟨br, orr + bn, none⟩ = some (.int .i64 key))) := hide (fun w' hB => ⟨cell_on hR1 hB, (HX.out.below' hB).cell' (i := 2) rfl, cell_on r1 hB⟩)
    clear hR1 r1
    refine wp_region_held_drew (S := (fun w' => w'.cell? ⟨g, pre.length, none⟩ = some (.slice (some ⟨br, orr, none⟩) t.r.length m.h.r.c) ∧ w'.cell? ⟨w.heap.size, 2, none⟩ = some (.int .i64 bn) ∧ w'.cell? ⟨br, orr + bn, none⟩ = some (.int .i64 key))) (by kernel_rfl) (KL.out _ (Below.refl _ _).drew) (fun hHeld => ?_)
    have D0 : Hid (Below W.heap.size W W.drew) := hide (Below.refl _ _).drew
    refine wpAnyH_take (i := 0) (v := ?_) rfl (by kernel_rfl) (by kernel_rfl) (by kernel_rfl) (fun _ _ _ h => h) (Or.inl ⟨by rfl, ?_⟩) (by assumption) ?_
    rotate_left
    · intro w hSw; (try dsimp only at hSw); (go_simp <;> with_reducible rfl)
    try simp only [List.getElem_toArray, List.getElem_cons_zero, Act.put, List.setIfInBounds_toArray, List.set_cons_zero, List.set_cons_succ]
    refine wpAnyH_take (i := 1) (v := ?_) rfl (by kernel_rfl) (by kernel_rfl) (by kernel_rfl) (fun _ _ _ h => h) (Or.inl ⟨by rfl, ?_⟩) (by assumption) ?_
    rotate_left
    · intro w hSw; (try dsimp only at hSw); (go_simp <;> with_reducible rfl)
    try simp only [List.getElem_toArray, List.getElem_cons_zero, List.getElem_cons_succ, Act.put, List.setIfInBounds_toArray, List.set_cons_zero, List.set_cons_succ]
    refine wpAnyH_take (i := 2) (v := ?_) rfl (by kernel_rfl) (by kernel_rfl) (by kernel_rfl) (fun _ _ _ h => h) (Or.inl ⟨by rfl, ?_⟩) (by assumption) ?_
    rotate_left
    · intro w hSw; (try dsimp only at hSw); (go_simp <;> with_reducible rfl)
    try simp only [List.getElem_toArray, List.getElem_cons_zero, List.getElem_cons_succ, Act.put, List.setIfInBounds_toArray, List.set_cons_zero, List.set_cons_succ]
    refine wpAnyH_take (i := 3) (v := ?_) rfl (by kernel_rfl) (by kernel_rfl) (by kernel_rfl) (fun _ _ _ h => h) (Or.inl ⟨by rfl, ?_⟩) (by assumption) ?_
    rotate_left
    · intro w hSw; (try dsimp only at hSw); (go_simp <;> with_reducible rfl)
    try simp only [List.getElem_toArray, List.getElem_cons_zero, List.getElem_cons_succ, Act.put, List.setIfInBounds_toArray, List.set_cons_zero, List.set_cons_succ]
    refine wpAnyH_take (i := 4) (v := ?_) rfl (by kernel_rfl) (by kernel_rfl) (by kernel_rfl) (fun _ _ _ h => h) (Or.inl ⟨by rfl, ?_⟩) (by assumption) ?_
    rotate_left
    · intro w hSw; (try dsimp only at hSw); (go_simp <;> with_reducible rfl)
    try simp only [List.getElem_toArray, List.getElem_cons_zero, List.getElem_cons_succ, Act.put, List.setIfInBounds_toArray, List.set_cons_zero, List.set_cons_succ]
    refine wpAnyH_take (i := 5) (v := ?_) rfl (by kernel_rfl) (by kernel_rfl) (by kernel_rfl) (fun _ _ _ h => h) (Or.inl ⟨by rfl, ?_⟩) (by assumption) ?_
    rotate_left
    · intro w hSw; (try dsimp only at hSw); (go_simp <;> with_reducible rfl)
    try simp only [List.getElem_toArray, List.getElem_cons_zero, List.getElem_cons_succ, Act.put, List.setIfInBounds_toArray, List.set_cons_zero, List.set_cons_succ]
    refine wpAnyH_take (i := 6) (v := ?_) rfl (by kernel_rfl) (by kernel_rfl) (by kernel_rfl) (fun _ _ _ h => h) (Or.inl ⟨by rfl, ?_⟩) (by assumption) ?_
    rotate_left
    · intro w hSw; (try dsimp only at hSw); (go_simp <;> with_reducible rfl)
    try simp only [List.getElem_toArray, List.getElem_cons_zero, List.getElem_cons_succ, Act.put, List.setIfInBounds_toArray, List.set_cons_zero, List.set_cons_succ]
    refine wpAnyH_take (i := 7) (v := ?_) rfl (by kernel_rfl) (by kernel_rfl) (by kernel_rfl) (fun _ _ _ h => h) (Or.inl ⟨by rfl, ?_⟩) (by assumption) ?_
    rotate_left
    · intro w hSw; (try dsimp only at hSw); (go_simp <;> with_reducible rfl)
    try simp only [List.getElem_toArray, List.getElem_cons_zero, List.getElem_cons_succ, Act.put, List.setIfInBounds_toArray, List.set_cons_zero, List.set_cons_succ]
    refine wpAnyH_take (i := 8) (v := ?_) rfl (by kernel_rfl) (by kernel_rfl) (by kernel_rfl) (fun _ _ _ h => h) (Or.inl ⟨by rfl, ?_⟩) (by assumption) ?_
    rotate_left
    · intro w hSw; (try dsimp only at hSw); (go_simp <;> with_reducible rfl)
    try simp only [List.getElem_toArray, List.getElem_cons_zero, List.getElem_cons_succ, Act.put, List.setIfInBounds_toArray, List.set_cons_zero, List.set_cons_succ]
    refine wpAnyH_take (i := 9) (v := ?_) rfl (by kernel_rfl) (by kernel_rfl) (by kernel_rfl) (fun _ _ _ h => h) (Or.inl ⟨by rfl, ?_⟩) (by assumption) ?_
    rotate_left
    · intro w hSw; (try dsimp only at hSw); (go_simp <;> with_reducible rfl)
    try simp only [List.getElem_toArray, List.getElem_cons_zero, List.getElem_cons_succ, Act.put, List.setIfInBounds_toArray, List.set_cons_zero, List.set_cons_succ]
    refine wpAnyH_ready (rs := [10, 14]) (by kernel_rfl) (by simp) ?_
    refine AllReadyH.cons rfl (fun K hK => ?_) (AllReadyH.cons rfl (fun K hK => ?_) AllReadyH.nil)
    · skip
      rw [if_pos (by rfl)]
      simp only [List.getElem_toArray, List.getElem_cons_zero, List.getElem_cons_succ]
      go_simp
      refine (LK.out _ (below_on B0.out D0.out)).mono ?_
      rintro e v1 ⟨rfl, hb⟩
      have E1 := hide hb; have D1 := hide (below_on D0.out hb); clear hb
      refine hK.out _ _ (KL.out _ D1.out) (fun hHeld => ?_)
      clear hK K
      try simp only [List.getElem_toArray, List.getElem_cons_zero, List.getElem_cons_succ, Act.put, List.setIfInBounds_toArray, List.set_cons_zero, List.set_cons_succ]
      refine wpAnyH_take (i := 11) (v := ?_) rfl (by kernel_rfl) (by kernel_rfl) (by kernel_rfl) (fun _ _ _ h => h) (Or.inl ⟨by rfl, ?_⟩) (by assumption) ?_
      rotate_left
      · intro w hSw; (try dsimp only at hSw); (go_simp <;> with_reducible rfl)
      try simp only [List.getElem_toArray, List.getElem_cons_zero, List.getElem_cons_succ, Act.put, List.setIfInBounds_toArray, List.set_cons_zero, List.set_cons_succ]
      refine wpAnyH_take (i := 12) (v := ?_) rfl (by kernel_rfl) (by kernel_rfl) (by kernel_rfl) (fun _ _ _ h => h) (Or.inl ⟨by rfl, ?_⟩) (by assumption) ?_
      rotate_left
      · intro w hSw; (try dsimp only at hSw); (go_simp <;> with_reducible rfl)
      try simp only [List.getElem_toArray, List.getElem_cons_zero, List.getElem_cons_succ, Act.put, List.setIfInBounds_toArray, List.set_cons_zero, List.set_cons_succ]
      refine wpAnyH_take (i := 13) (v := ?_) rfl (by kernel_rfl) (by kernel_rfl) (by kernel_rfl) (fun _ _ _ h => h) (Or.inl ⟨by rfl, ?_⟩) (by assumption) ?_
      rotate_left
      · intro w hSw; (try dsimp only at hSw); (go_simp <;> with_reducible rfl)
      try simp only [List.getElem_toArray, List.getElem_cons_zero, List.getElem_cons_succ, Act.put, List.setIfInBounds_toArray, List.set_cons_zero, List.set_cons_succ]
      refine wpAnyH_ready (rs := [14]) (by kernel_rfl) (by simp) ?_
      refine AllReadyH.cons rfl (fun K hK => ?_) AllReadyH.nil
      rw [if_pos (by rfl)]
      simp only [List.getElem_toArray, List.getElem_cons_zero, List.getElem_cons_succ]
      refine wp_alloc_let 69 rfl (.agg #[.int .i64 0, .bool false]) [.int .i64 0, .bool false] (by kernel_rfl) rfl ?_
      intro u1 gx hgx ru bu zu
      have RU := hide ru; have D2 := hide (below_on D1.out bu); have GX := hide (show W.heap.size ≤ gx from by rw [hgx]; exact D1.out.size); clear ru zu hgx
      refine hK.out _ _ (KL.out _ D2.out) (fun hHeld => ?_)
      clear hK K
      try simp only [Act.put, List.setIfInBounds_toArray, List.set_cons_zero, List.set_cons_succ]
      refine wpAnyH_ready (rs := [15]) (by kernel_rfl) (by simp) ?_
      refine AllReadyH.cons rfl (fun K hK => ?_) AllReadyH.nil
      rw [if_pos (by rfl)]
      simp only [List.getElem_toArray, List.getElem_cons_zero, List.getElem_cons_succ]
      refine wp_store_row 69 (.tmp 6) (.tmp 39) rfl gx rfl [.int .i64 v, .bool th] [.int .i64 0, .bool false] 69 RU.out rfl rfl (by kernel_rfl) (contentRow_oneCell v th) ?_
      intro w5 r5 c5 z5
      have B5 := hide (show Below W.heap.size W w5 from D2.out.trans (c5.belowB (fun k hk => by rw [hk]; exact GX.out) D2.out.size))
      have R5 := hide r5; clear r5 c5 z5
      refine hK.out _ _ (KL.out _ B5.out) (fun hHeld => ?_)
      clear hK K
      try simp only [Act.put]
      refine wpAnyH_take (i := 16) (v := ?_) rfl (by kernel_rfl) (by kernel_rfl) (by kernel_rfl) (fun _ _ _ h => h) (Or.inl ⟨by rfl, ?_⟩) (by assumption) ?_
      rotate_left
      · intro w hSw; (try dsimp only at hSw); (go_simp <;> with_reducible rfl)
      try simp only [List.getElem_toArray, List.getElem_cons_zero, List.getElem_cons_succ, Act.put, List.setIfInBounds_toArray, List.set_cons_zero, List.set_cons_succ]
      refine wpAnyH_done (by kernel_rfl) ?_ _
      try simp only [Act.put]
      clear hHeld KL
      clear LK
      cases known
      · go_wp2
        go_ret
        exact ⟨rfl, below_on B0.out B5.out⟩
      · have M5 := hide (HM.out.below' B5.out)
        have X5 := hide (HX.out.below' B5.out)
        have KL2 : Hid (∀ w', Below w5.heap.size w5 w' → (w'.cell? ⟨w.heap.size, 1, none⟩ = some (.int .i64 an) ∧ w'.cell? ⟨w.heap.size, 0, none⟩ = some (.int .i64 6) ∧ w'.cell? ⟨gx, 0, none⟩ = some (.int .i64 v) ∧ w'.cell? ⟨gx, 1, none⟩ = some (.bool th))) := hide (fun w' hB => ⟨(X5.out.below' hB).cell' (i := 1) rfl, (X5.out.below' hB).cell' (i := 0) rfl, (R5.out.below' hB).cell' (i := 0) rfl, (R5.out.below' hB).cell' (i := 1) rfl⟩)
        go_wp2_with fail
        refine wp_region_held_drew (S := (fun w' => w'.cell? ⟨w.heap.size, 1, none⟩ = some (.int .i64 an) ∧ w'.cell? ⟨w.heap.size, 0, none⟩ = some (.int .i64 6) ∧ w'.cell? ⟨gx, 0, none⟩ = some (.int .i64 v) ∧ w'.cell? ⟨gx, 1, none⟩ = some (.bool th))) (by kernel_rfl) (KL2.out _ (Below.refl _ _).drew) (fun hHeld => ?_)
        have F0 : Hid (Below w5.heap.size w5 w5.drew) := hide (Below.refl _ _).drew
        refine wpAnyH_take (i := 0) (v := ?_) rfl (by kernel_rfl) (by kernel_rfl) (by kernel_rfl) (fun _ _ _ h => h) (Or.inl ⟨by rfl, ?_⟩) (by assumption) ?_
        rotate_left
        · intro w hSw; (try dsimp only at hSw); (go_simp <;> with_reducible rfl)
        try simp only [List.getElem_toArray, List.getElem_cons_zero, Act.put, List.setIfInBounds_toArray, List.set_cons_zero, List.set_cons_succ]
        refine wpAnyH_take (i := 1) (v := ?_) rfl (by kernel_rfl) (by kernel_rfl) (by kernel_rfl) (fun _ _ _ h => h) (Or.inl ⟨by rfl, ?_⟩) (by assumption) ?_
        rotate_left
        · intro w hSw; (try dsimp only at hSw); (go_simp <;> with_reducible rfl)
        try simp only [List.getElem_toArray, List.getElem_cons_zero, List.getElem_cons_succ, Act.put, List.setIfInBounds_toArray, List.set_cons_zero, List.set_cons_succ]
        refine wpAnyH_take (i := 2) (v := ?_) rfl (by kernel_rfl) (by kernel_rfl) (by kernel_rfl) (fun _ _ _ h => h) (Or.inl ⟨by rfl, ?_⟩) (by assumption) ?_
        rotate_left
        · intro w hSw; (try dsimp only at hSw); (go_simp <;> with_reducible rfl)
        try simp only [List.getElem_toArray, List.getElem_cons_zero, List.getElem_cons_succ, Act.put, List.setIfInBounds_toArray, List.set_cons_zero, List.set_cons_succ]
        refine wpAnyH_take (i := 3) (v := ?_) rfl (by kernel_rfl) (by kernel_rfl) (by kernel_rfl) (fun _ _ _ h => h) (Or.inl ⟨by rfl, ?_⟩) (by assumption) ?_
        rotate_left
        · intro w hSw; (try dsimp only at hSw); (go_simp <;> with_reducible rfl)
        try simp only [List.getElem_toArray, List.getElem_cons_zero, List.getElem_cons_succ, Act.put, List.setIfInBounds_toArray, List.set_cons_zero, List.set_cons_succ]
        refine wpAnyH_take (i := 4) (v := ?_) rfl (by kernel_rfl) (by kernel_rfl) (by kernel_rfl) (fun _ _ _ h => h) (Or.inl ⟨by rfl, ?_⟩) (by assumption) ?_
        rotate_left
        · intro w hSw; (try dsimp only at hSw); (go_simp <;> with_reducible rfl)
        try simp only [List.getElem_toArray, List.getElem_cons_zero, List.getElem_cons_succ, Act.put, List.setIfInBounds_toArray, List.set_cons_zero, List.set_cons_succ]
        refine wpAnyH_take (i := 5) (v := ?_) rfl (by kernel_rfl) (by kernel_rfl) (by kernel_rfl) (fun _ _ _ h => h) (Or.inl ⟨by rfl, ?_⟩) (by assumption) ?_
        rotate_left
        · intro w hSw; (try dsimp only at hSw); (go_simp <;> with_reducible rfl)
        try simp only [List.getElem_toArray, List.getElem_cons_zero, List.getElem_cons_succ, Act.put, List.setIfInBounds_toArray, List.set_cons_zero, List.set_cons_succ]
        refine wpAnyH_take (i := 7) (v := ?_) rfl (by kernel_rfl) (by kernel_rfl) (by kernel_rfl) (fun _ _ _ h => h) (Or.inl ⟨by rfl, ?_⟩) (by assumption) ?_
        rotate_left
        · intro w hSw; (try dsimp only at hSw); (go_simp <;> with_reducible rfl)
        try simp only [List.getElem_toArray, List.getElem_cons_zero, List.getElem_cons_succ, Act.put, List.setIfInBounds_toArray, List.set_cons_zero, List.set_cons_succ]
        refine wpAnyH_take (i := 8) (v := ?_) rfl (by kernel_rfl) (by kernel_rfl) (by kernel_rfl) (fun _ _ _ h => h) (Or.inl ⟨by rfl, ?_⟩) (by assumption) ?_
        rotate_left
        · intro w hSw; (try dsimp only at hSw); (go_simp <;> with_reducible rfl)
        try simp only [List.getElem_toArray, List.getElem_cons_zero, List.getElem_cons_succ, Act.put, List.setIfInBounds_toArray, List.set_cons_zero, List.set_cons_succ]
        refine wpAnyH_ready (rs := [6]) (by kernel_rfl) (by simp) ?_
        refine AllReadyH.cons rfl (fun K hK => ?_) AllReadyH.nil
        rw [if_pos (by rfl)]
        simp only [List.getElem_toArray, List.getElem_cons_zero, List.getElem_cons_succ]
        go_simp
        refine (mseen_load v th _).mono ?_
        rintro e v6 ⟨rfl, hb⟩
        have F1 := hide (below_on F0.out hb); clear hb
        refine hK.out _ _ (KL2.out _ F1.out) (fun hHeld => ?_)
        clear hK K
        try simp only [List.getElem_toArray, List.getElem_cons_zero, List.getElem_cons_succ, Act.put, List.setIfInBounds_toArray, List.set_cons_zero, List.set_cons_succ]
        refine wpAnyH_take (i := 9) (v := ?_) rfl (by kernel_rfl) (by kernel_rfl) (by kernel_rfl) (fun _ _ _ h => h) (Or.inl ⟨by rfl, ?_⟩) (by assumption) ?_
        rotate_left
        · intro w hSw; (try dsimp only at hSw); (go_simp <;> with_reducible rfl)
        try simp only [List.getElem_toArray, List.getElem_cons_zero, List.getElem_cons_succ, Act.put, List.setIfInBounds_toArray, List.set_cons_zero, List.set_cons_succ]
        refine wpAnyH_ready (rs := [10]) (by kernel_rfl) (by simp) ?_
        refine AllReadyH.cons rfl (fun K hK => ?_) AllReadyH.nil
        rw [if_pos (by rfl)]
        simp only [List.getElem_toArray, List.getElem_cons_zero, List.getElem_cons_succ]
        have M6 := hide (M5.out.below' F1.out)
        have hA6 := M6.out.cell (Mac.row_reg M6.out.r6 (show an < 6 by omega))
        have hf6 := M6.out.frozen (4 + an)
        rw [← Nat.add_assoc] at hA6 hf6
        refine wp_store_cell 3 (.tmp 52) (.tmp 49) rfl ⟨g, pre.length + 4 + an, none⟩ rfl (.int .i64 v) rfl (by go_simp) ?_
        have M7 := hide (M6.out.set1 (i := 4 + an) (by omega) (Mac.row_set_reg M6.out.r6 (show an < 6 by omega) v) (by simp [M6.out.r6]) M6.out.s6)
        rw [← Nat.add_assoc] at M7
        have C7 := hide (Chg.setCell v6 ⟨g, pre.length + 4 + an, none⟩ (.int .i64 v))
        clear hA6 hf6
        generalize v6.setCell ⟨g, pre.length + 4 + an, none⟩ (.int .i64 v) = w7 at *
        have hgxb : ¬ w.heap.size = g := by omega
        have hggx : ¬ gx = g := by have h1 := GX.out; have h2 := hltW; omega
        refine hK.out _ _ ⟨cell_chg C7.out (KL2.out _ F1.out).1 hgxb, cell_chg C7.out (KL2.out _ F1.out).2.1 hgxb, cell_chg C7.out (KL2.out _ F1.out).2.2.1 hggx, cell_chg C7.out (KL2.out _ F1.out).2.2.2 hggx⟩ (fun hHeld => ?_)
        refine wpAnyH_done (by kernel_rfl) ?_ _
        try simp only [Act.put]
        have hN7 := M7.out.cell (i := 3) (v := .int .i64 m.next) rfl
        have hf7 := M7.out.frozen 3
        have M8 := hide (M7.out.set1 (i := 3) (by omega) (Mac.row_set_next (m.next + 1)) M7.out.r6 M7.out.s6)
        have hwr : IntKind.i64.wrap ((m.next : Int) + 1) = ((m.next + 1 : Nat) : Int) := by rw [IntKind.wrap_i64]; omega
        have CC := hide ((Chg.of_below (below_on B0.out (below_on B5.out F1.out)) (· = g)).trans C7.out)
        clear hK hHeld KL2
        go_wp2
        go_ret
        exact ⟨rfl, M8.out, CC.out.trans (Chg.setCell _ _ _)⟩
    · skip
      rw [if_pos (by rfl)]
      simp only [List.getElem_toArray, List.getElem_cons_zero, List.getElem_cons_succ]
      refine wp_alloc_let 69 rfl (.agg #[.int .i64 0, .bool false]) [.int .i64 0, .bool false] (by kernel_rfl) rfl ?_
      intro u1 gx hgx ru bu zu
      have RU := hide ru; have D1 := hide (below_on D0.out bu); have GX := hide (show W.heap.size ≤ gx from by rw [hgx]; exact D0.out.size); clear ru zu hgx
      refine hK.out _ _ (KL.out _ D1.out) (fun hHeld => ?_)
      clear hK K
      try simp only [Act.put, List.setIfInBounds_toArray, List.set_cons_zero, List.set_cons_succ]
      refine wpAnyH_ready (rs := [10]) (by kernel_rfl) (by simp) ?_
      refine AllReadyH.cons rfl (fun K hK => ?_) AllReadyH.nil
      rw [if_pos (by rfl)]
      simp only [List.getElem_toArray, List.getElem_cons_zero, List.getElem_cons_succ]
      go_simp
      refine (LK.out _ (below_on B0.out D1.out)).mono ?_
      rintro e v1 ⟨rfl, hb⟩
      have E1 := hide hb; have D2 := hide (below_on D1.out hb); clear hb
      refine hK.out _ _ (KL.out _ D2.out) (fun hHeld => ?_)
      clear hK K
      try simp only [List.getElem_toArray, List.getElem_cons_zero, List.getElem_cons_succ, Act.put, List.setIfInBounds_toArray, List.set_cons_zero, List.set_cons_succ]
      refine wpAnyH_take (i := 11) (v := ?_) rfl (by kernel_rfl) (by kernel_rfl) (by kernel_rfl) (fun _ _ _ h => h) (Or.inl ⟨by rfl, ?_⟩) (by assumption) ?_
      rotate_left
      · intro w hSw; (try dsimp only at hSw); (go_simp <;> with_reducible rfl)
      try simp only [List.getElem_toArray, List.getElem_cons_zero, List.getElem_cons_succ, Act.put, List.setIfInBounds_toArray, List.set_cons_zero, List.set_cons_succ]
      refine wpAnyH_take (i := 12) (v := ?_) rfl (by kernel_rfl) (by kernel_rfl) (by kernel_rfl) (fun _ _ _ h => h) (Or.inl ⟨by rfl, ?_⟩) (by assumption) ?_
      rotate_left
      · intro w hSw; (try dsimp only at hSw); (go_simp <;> with_reducible rfl)
      try simp only [List.getElem_toArray, List.getElem_cons_zero, List.getElem_cons_succ, Act.put, List.setIfInBounds_toArray, List.set_cons_zero, List.set_cons_succ]
      refine wpAnyH_take (i := 13) (v := ?_) rfl (by kernel_rfl) (by kernel_rfl) (by kernel_rfl) (fun _ _ _ h => h) (Or.inl ⟨by rfl, ?_⟩) (by assumption) ?_
      rotate_left
      · intro w hSw; (try dsimp only at hSw); (go_simp <;> with_reducible rfl)
      try simp only [List.getElem_toArray, List.getElem_cons_zero, List.getElem_cons_succ, Act.put, List.setIfInBounds_toArray, List.set_cons_zero, List.set_cons_succ]
      refine wpAnyH_ready (rs := [15]) (by kernel_rfl) (by simp) ?_
      refine AllReadyH.cons rfl (fun K hK => ?_) AllReadyH.nil
      rw [if_pos (by rfl)]
      simp only [List.getElem_toArray, List.getElem_cons_zero, List.getElem_cons_succ]
      refine wp_store_row 69 (.tmp 6) (.tmp 39) rfl gx rfl [.int .i64 v, .bool th] [.int .i64 0, .bool false] 69 (RU.out.below' E1.out) rfl rfl (by kernel_rfl) (contentRow_oneCell v th) ?_
      intro w5 r5 c5 z5
      have B5 := hide (show Below W.heap.size W w5 from D2.out.trans (c5.belowB (fun k hk => by rw [hk]; exact GX.out) D2.out.size))
      have R5 := hide r5; clear r5 c5 z5
      refine hK.out _ _ (KL.out _ B5.out) (fun hHeld => ?_)
      clear hK K
      try simp only [Act.put]
      refine wpAnyH_take (i := 16) (v := ?_) rfl (by kernel_rfl) (by kernel_rfl) (by kernel_rfl) (fun _ _ _ h => h) (Or.inl ⟨by rfl, ?_⟩) (by assumption) ?_
      rotate_left
      · intro w hSw; (try dsimp only at hSw); (go_simp <;> with_reducible rfl)
      try simp only [List.getElem_toArray, List.getElem_cons_zero, List.getElem_cons_succ, Act.put, List.setIfInBounds_toArray, List.set_cons_zero, List.set_cons_succ]
      refine wpAnyH_done (by kernel_rfl) ?_ _
      try simp only [Act.put]
      clear hHeld KL
      clear LK
      cases known
      · go_wp2
        go_ret
        exact ⟨rfl, below_on B0.out B5.out⟩
      · have M5 := hide (HM.out.below' B5.out)
        have X5 := hide (HX.out.below' B5.out)
        have KL2 : Hid (∀ w', Below w5.heap.size w5 w' → (w'.cell? ⟨w.heap.size, 1, none⟩ = some (.int .i64 an) ∧ w'.cell? ⟨w.heap.size, 0, none⟩ = some (.int .i64 6) ∧ w'.cell? ⟨gx, 0, none⟩ = some (.int .i64 v) ∧ w'.cell? ⟨gx, 1, none⟩ = some (.bool th))) := hide (fun w' hB => ⟨(X5.out.below' hB).cell' (i := 1) rfl, (X5.out.below' hB).cell' (i := 0) rfl, (R5.out.below' hB).cell' (i := 0) rfl, (R5.out.below' hB).cell' (i := 1) rfl⟩)
        go_wp2_with fail
        refine wp_region_held_drew (S := (fun w' => w'.cell? ⟨w.heap.size, 1, none⟩ = some (.int .i64 an) ∧ w'.cell? ⟨w.heap.size, 0, none⟩ = some (.int .i64 6) ∧ w'.cell? ⟨gx, 0, none⟩ = some (.int .i64 v) ∧ w'.cell? ⟨gx, 1, none⟩ = some (.bool th))) (by kernel_rfl) (KL2.out _ (Below.refl _ _).drew) (fun hHeld => ?_)
        have F0 : Hid (Below w5.heap.size w5 w5.drew) := hide (Below.refl _ _).drew
        refine wpAnyH_take (i := 0) (v := ?_) rfl (by kernel_rfl) (by kernel_rfl) (by kernel_rfl) (fun _ _ _ h => h) (Or.inl ⟨by rfl, ?_⟩) (by assumption) ?_
        rotate_left
        · intro w hSw; (try dsimp only at hSw); (go_simp <;> with_reducible rfl)
        try simp only [List.getElem_toArray, List.getElem_cons_zero, Act.put, List.setIfInBounds_toArray, List.set_cons_zero, List.set_cons_succ]
        refine wpAnyH_take (i := 1) (v := ?_) rfl (by kernel_rfl) (by kernel_rfl) (by kernel_rfl) (fun _ _ _ h => h) (Or.inl ⟨by rfl, ?_⟩) (by assumption) ?_
        rotate_left
        · intro w hSw; (try dsimp only at hSw); (go_simp <;> with_reducible rfl)
        try simp only [List.getElem_toArray, List.getElem_cons_zero, List.getElem_cons_succ, Act.put, List.setIfInBounds_toArray, List.set_cons_zero, List.set_cons_succ]
        refine wpAnyH_take (i := 2) (v := ?_) rfl (by kernel_rfl) (by kernel_rfl) (by kernel_rfl) (fun _ _ _ h => h) (Or.inl ⟨by rfl, ?_⟩) (by assumption) ?_
        rotate_left
        · intro w hSw; (try dsimp only at hSw); (go_simp <;> with_reducible rfl)
        try simp only [List.getElem_toArray, List.getElem_cons_zero, List.getElem_cons_succ, Act.put, List.setIfInBounds_toArray, List.set_cons_zero, List.set_cons_succ]
        refine wpAnyH_take (i := 3) (v := ?_) rfl (by kernel_rfl) (by kernel_rfl) (by kernel_rfl) (fun _ _ _ h => h) (Or.inl ⟨by rfl, ?_⟩) (by assumption) ?_
        rotate_left
        · intro w hSw; (try dsimp only at hSw); (go_simp <;> with_reducible rfl)
        try simp only [List.getElem_toArray, List.getElem_cons_zero, List.getElem_cons_succ, Act.put, List.setIfInBounds_toArray, List.set_cons_zero, List.set_cons_succ]
        refine wpAnyH_take (i := 4) (v := ?_) rfl (by kernel_rfl) (by kernel_rfl) (by kernel_rfl) (fun _ _ _ h => h) (Or.inl ⟨by rfl, ?_⟩) (by assumption) ?_
        rotate_left
        · intro w hSw; (try dsimp only at hSw); (go_simp <;> with_reducible rfl)
        try simp only [List.getElem_toArray, List.getElem_cons_zero, List.getElem_cons_succ, Act.put, List.setIfInBounds_toArray, List.set_cons_zero, List.set_cons_succ]
        refine wpAnyH_take (i := 5) (v := ?_) rfl (by kernel_rfl) (by kernel_rfl) (by kernel_rfl) (fun _ _ _ h => h) (Or.inl ⟨by rfl, ?_⟩) (by assumption) ?_
        rotate_left
        · intro w hSw; (try dsimp only at hSw); (go_simp <;> with_reducible rfl)
        try simp only [List.getElem_toArray, List.getElem_cons_zero, List.getElem_cons_succ, Act.put, List.setIfInBounds_toArray, List.set_cons_zero, List.set_cons_succ]
        refine wpAnyH_take (i := 7) (v := ?_) rfl (by kernel_rfl) (by kernel_rfl) (by kernel_rfl) (fun _ _ _ h => h) (Or.inl ⟨by rfl, ?_⟩) (by assumption) ?_
        rotate_left
        · intro w hSw; (try dsimp only at hSw); (go_simp <;> with_reducible rfl)
        try simp only [List.getElem_toArray, List.getElem_cons_zero, List.getElem_cons_succ, Act.put, List.setIfInBounds_toArray, List.set_cons_zero, List.set_cons_succ]
        refine wpAnyH_take (i := 8) (v := ?_) rfl (by kernel_rfl) (by kernel_rfl) (by kernel_rfl) (fun _ _ _ h => h) (Or.inl ⟨by rfl, ?_⟩) (by assumption) ?_
        rotate_left
        · intro w hSw; (try dsimp only at hSw); (go_simp <;> with_reducible rfl)
        try simp only [List.getElem_toArray, List.getElem_cons_zero, List.getElem_cons_succ, Act.put, List.setIfInBounds_toArray, List.set_cons_zero, List.set_cons_succ]
        refine wpAnyH_ready (rs := [6]) (by kernel_rfl) (by simp) ?_
        refine AllReadyH.cons rfl (fun K hK => ?_) AllReadyH.nil
        rw [if_pos (by rfl)]
        simp only [List.getElem_toArray, List.getElem_cons_zero, List.getElem_cons_succ]
        go_simp
        refine (mseen_load v th _).mono ?_
        rintro e v6 ⟨rfl, hb⟩
        have F1 := hide (below_on F0.out hb); clear hb
        refine hK.out _ _ (KL2.out _ F1.out) (fun hHeld => ?_)
        clear hK K
        try simp only [List.getElem_toArray, List.getElem_cons_zero, List.getElem_cons_succ, Act.put, List.setIfInBounds_toArray, List.set_cons_zero, List.set_cons_succ]
        refine wpAnyH_take (i := 9) (v := ?_) rfl (by kernel_rfl) (by kernel_rfl) (by kernel_rfl) (fun _ _ _ h => h) (Or.inl ⟨by rfl, ?_⟩) (by assumption) ?_
        rotate_left
        · intro w hSw; (try dsimp only at hSw); (go_simp <;> with_reducible rfl)
        try simp only [List.getElem_toArray, List.getElem_cons_zero, List.getElem_cons_succ, Act.put, List.setIfInBounds_toArray, List.set_cons_zero, List.set_cons_succ]
        refine wpAnyH_ready (rs := [10]) (by kernel_rfl) (by simp) ?_
        refine AllReadyH.cons rfl (fun K hK => ?_) AllReadyH.nil
        rw [if_pos (by rfl)]
        simp only [List.getElem_toArray, List.getElem_cons_zero, List.getElem_cons_succ]
        have M6 := hide (M5.out.below' F1.out)
        have hA6 := M6.out.cell (Mac.row_reg M6.out.r6 (show an < 6 by omega))
        have hf6 := M6.out.frozen (4 + an)
        rw [← Nat.add_assoc] at hA6 hf6
        refine wp_store_cell 3 (.tmp 52) (.tmp 49) rfl ⟨g, pre.length + 4 + an, none⟩ rfl (.int .i64 v) rfl (by go_simp) ?_
        have M7 := hide (M6.out.set1 (i := 4 + an) (by omega) (Mac.row_set_reg M6.out.r6 (show an < 6 by omega) v) (by simp [M6.out.r6]) M6.out.s6)
        rw [← Nat.add_assoc] at M7
        have C7 := hide (Chg.setCell v6 ⟨g, pre.length + 4 + an, none⟩ (.int .i64 v))
        clear hA6 hf6
        generalize v6.setCell ⟨g, pre.length + 4 + an, none⟩ (.int .i64 v) = w7 at *
        have hgxb : ¬ w.heap.size = g := by omega
        have hggx : ¬ gx = g := by have h1 := GX.out; have h2 := hltW; omega
        refine hK.out _ _ ⟨cell_chg C7.out (KL2.out _ F1.out).1 hgxb, cell_chg C7.out (KL2.out _ F1.out).2.1 hgxb, cell_chg C7.out (KL2.out _ F1.out).2.2.1 hggx, cell_chg C7.out (KL2.out _ F1.out).2.2.2 hggx⟩ (fun hHeld => ?_)
        refine wpAnyH_done (by kernel_rfl) ?_ _
        try simp only [Act.put]
        have hN7 := M7.out.cell (i := 3) (v := .int .i64 m.next) rfl
        have hf7 := M7.out.frozen 3
        have M8 := hide (M7.out.set1 (i := 3) (by omega) (Mac.row_set_next (m.next + 1)) M7.out.r6 M7.out.s6)
        have hwr : IntKind.i64.wrap ((m.next : Int) + 1) = ((m.next + 1 : Nat) : Int) := by rw [IntKind.wrap_i64]; omega
        have CC := hide ((Chg.of_below (below_on B0.out (below_on B5.out F1.out)) (· = g)).trans C7.out)
        clear hK hHeld KL2
        go_wp2
        go_ret
        exact ⟨rfl, M8.out, CC.out.trans (Chg.setCell _ _ _)⟩
  · skip
    have SE := hide (fun wx => mseen_has v th wx)
    rw [if_neg (show ¬ (7 : Int) = 6 by decide)]
    generalize (if th = true then (1 : Int) else 0) = sv at SE ⊢
    go_enter Try.func74, Try.ntmps74
    go_wp2
    go_region
    go_wp2_with fail
    have HX := hide (rowAt_alloc w [.int .i64 7, .int .i64 an, .int .i64 bn, .int .i64 c] 51).drew
    change Hid (RowAt (w.alloc (.cells #[.int .i64 7, .int .i64 an, .int .i64 bn, .int .i64 c] 51)).drew w.heap.size 51 [.int .i64 7, .int .i64 an, .int .i64 bn, .int .i64 c]) at HX
    have HM := hide (H.out.below' B0.out)
    have r1 := cell_on r0 B0.out
    have hR1 := cell_on hR B0.out
    have hltW : w.heap.size < (w.alloc (.cells #[.int .i64 7, .int .i64 an, .int .i64 bn, .int .i64 c] 51)).drew.heap.size := HX.out.lt
    clear hN hC hR r0 k0 k1 k2 k3 H
    generalize (w.alloc (.cells #[.int .i64 7, .int .i64 an, .int .i64 bn, .int .i64 c] 51)).drew = W at *
    have KL : Hid (∀ w', Below W.heap.size W w' → (w'.cell? ⟨g, pre.length, none⟩ = some (.slice (some ⟨br, orr, none⟩) t.r.length m.h.r.c) ∧ w'.cell? ⟨w.heap.size, 2, none⟩ = some (.int .i64 bn) ∧ w'.cell? ⟨br, orr + bn, none⟩ = some (.int .i64 key))) := hide (fun w' hB => ⟨cell_on hR1 hB, (HX.out.below' hB).cell' (i := 2) rfl, cell_on r1 hB⟩)
    clear hR1 r1
    refine wp_region_held_drew (S := (fun w' => w'.cell? ⟨g, pre.length, none⟩ = some (.slice (some ⟨br, orr, none⟩) t.r.length m.h.r.c) ∧ w'.cell? ⟨w.heap.size, 2, none⟩ = some (.int .i64 bn) ∧ w'.cell? ⟨br, orr + bn, none⟩ = some (.int .i64 key))) (by kernel_rfl) (KL.out _ (Below.refl _ _).drew) (fun hHeld => ?_)
    have D0 : Hid (Below W.heap.size W W.drew) := hide (Below.refl _ _).drew
    refine wpAnyH_take (i := 0) (v := ?_) rfl (by kernel_rfl) (by kernel_rfl) (by kernel_rfl) (fun _ _ _ h => h) (Or.inl ⟨by rfl, ?_⟩) (by assumption) ?_
    rotate_left
    · intro w hSw; (try dsimp only at hSw); (go_simp <;> with_reducible rfl)
    try simp only [List.getElem_toArray, List.getElem_cons_zero, Act.put, List.setIfInBounds_toArray, List.set_cons_zero, List.set_cons_succ]
    refine wpAnyH_take (i := 1) (v := ?_) rfl (by kernel_rfl) (by kernel_rfl) (by kernel_rfl) (fun _ _ _ h => h) (Or.inl ⟨by rfl, ?_⟩) (by assumption) ?_
    rotate_left
    · intro w hSw; (try dsimp only at hSw); (go_simp <;> with_reducible rfl)
    try simp only [List.getElem_toArray, List.getElem_cons_zero, List.getElem_cons_succ, Act.put, List.setIfInBounds_toArray, List.set_cons_zero, List.set_cons_succ]
    refine wpAnyH_take (i := 2) (v := ?_) rfl (by kernel_rfl) (by kernel_rfl) (by kernel_rfl) (fun _ _ _ h => h) (Or.inl ⟨by rfl, ?_⟩) (by assumption) ?_
    rotate_left
    · intro w hSw; (try dsimp only at hSw); (go_simp <;> with_reducible rfl)
    try simp only [List.getElem_toArray, List.getElem_cons_zero, List.getElem_cons_succ, Act.put, List.setIfInBounds_toArray, List.set_cons_zero, List.set_cons_succ]
    refine wpAnyH_take (i := 3) (v := ?_) rfl (by kernel_rfl) (by kernel_rfl) (by kernel_rfl) (fun _ _ _ h => h) (Or.inl ⟨by rfl, ?_⟩) (by assumption) ?_
    rotate_left
    · intro w hSw; (try dsimp only at hSw); (go_simp <;> with_reducible rfl)
    try simp only [List.getElem_toArray, List.getElem_cons_zero, List.getElem_cons_succ, Act.put, List.setIfInBounds_toArray, List.set_cons_zero, List.set_cons_succ]
    refine wpAnyH_take (i := 4) (v := ?_) rfl (by kernel_rfl) (by kernel_rfl) (by kernel_rfl) (fun _ _ _ h => h) (Or.inl ⟨by rfl, ?_⟩) (by assumption) ?_
    rotate_left
    · intro w hSw; (try dsimp only at hSw); (go_simp <;> with_reducible rfl)
    try simp only [List.getElem_toArray, List.getElem_cons_zero, List.getElem_cons_succ, Act.put, List.setIfInBounds_toArray, List.set_cons_zero, List.set_cons_succ]
    refine wpAnyH_take (i := 5) (v := ?_) rfl (by kernel_rfl) (by kernel_rfl) (by kernel_rfl) (fun _ _ _ h => h) (Or.inl ⟨by rfl, ?_⟩) (by assumption) ?_
    rotate_left
    · intro w hSw; (try dsimp only at hSw); (go_simp <;> with_reducible rfl)
    try simp only [List.getElem_toArray, List.getElem_cons_zero, List.getElem_cons_succ, Act.put, List.setIfInBounds_toArray, List.set_cons_zero, List.set_cons_succ]
    refine wpAnyH_take (i := 6) (v := ?_) rfl (by kernel_rfl) (by kernel_rfl) (by kernel_rfl) (fun _ _ _ h => h) (Or.inl ⟨by rfl, ?_⟩) (by assumption) ?_
    rotate_left
    · intro w hSw; (try dsimp only at hSw); (go_simp <;> with_reducible rfl)
    try simp only [List.getElem_toArray, List.getElem_cons_zero, List.getElem_cons_succ, Act.put, List.setIfInBounds_toArray, List.set_cons_zero, List.set_cons_succ]
    refine wpAnyH_take (i := 7) (v := ?_) rfl (by kernel_rfl) (by kernel_rfl) (by kernel_rfl) (fun _ _ _ h => h) (Or.inl ⟨by rfl, ?_⟩) (by assumption) ?_
    rotate_left
    · intro w hSw; (try dsimp only at hSw); (go_simp <;> with_reducible rfl)
    try simp only [List.getElem_toArray, List.getElem_cons_zero, List.getElem_cons_succ, Act.put, List.setIfInBounds_toArray, List.set_cons_zero, List.set_cons_succ]
    refine wpAnyH_take (i := 8) (v := ?_) rfl (by kernel_rfl) (by kernel_rfl) (by kernel_rfl) (fun _ _ _ h => h) (Or.inl ⟨by rfl, ?_⟩) (by assumption) ?_
    rotate_left
    · intro w hSw; (try dsimp only at hSw); (go_simp <;> with_reducible rfl)
    try simp only [List.getElem_toArray, List.getElem_cons_zero, List.getElem_cons_succ, Act.put, List.setIfInBounds_toArray, List.set_cons_zero, List.set_cons_succ]
    refine wpAnyH_take (i := 9) (v := ?_) rfl (by kernel_rfl) (by kernel_rfl) (by kernel_rfl) (fun _ _ _ h => h) (Or.inl ⟨by rfl, ?_⟩) (by assumption) ?_
    rotate_left
    · intro w hSw; (try dsimp only at hSw); (go_simp <;> with_reducible rfl)
    try simp only [List.getElem_toArray, List.getElem_cons_zero, List.getElem_cons_succ, Act.put, List.setIfInBounds_toArray, List.set_cons_zero, List.set_cons_succ]
    refine wpAnyH_ready (rs := [10, 14]) (by kernel_rfl) (by simp) ?_
    refine AllReadyH.cons rfl (fun K hK => ?_) (AllReadyH.cons rfl (fun K hK => ?_) AllReadyH.nil)
    · skip
      rw [if_pos (by rfl)]
      simp only [List.getElem_toArray, List.getElem_cons_zero, List.getElem_cons_succ]
      go_simp
      refine (LK.out _ (below_on B0.out D0.out)).mono ?_
      rintro e v1 ⟨rfl, hb⟩
      have E1 := hide hb; have D1 := hide (below_on D0.out hb); clear hb
      refine hK.out _ _ (KL.out _ D1.out) (fun hHeld => ?_)
      clear hK K
      try simp only [List.getElem_toArray, List.getElem_cons_zero, List.getElem_cons_succ, Act.put, List.setIfInBounds_toArray, List.set_cons_zero, List.set_cons_succ]
      refine wpAnyH_take (i := 11) (v := ?_) rfl (by kernel_rfl) (by kernel_rfl) (by kernel_rfl) (fun _ _ _ h => h) (Or.inl ⟨by rfl, ?_⟩) (by assumption) ?_
      rotate_left
      · intro w hSw; (try dsimp only at hSw); (go_simp <;> with_reducible rfl)
      try simp only [List.getElem_toArray, List.getElem_cons_zero, List.getElem_cons_succ, Act.put, List.setIfInBounds_toArray, List.set_cons_zero, List.set_cons_succ]
      refine wpAnyH_take (i := 12) (v := ?_) rfl (by kernel_rfl) (by kernel_rfl) (by kernel_rfl) (fun _ _ _ h => h) (Or.inl ⟨by rfl, ?_⟩) (by assumption) ?_
      rotate_left
      · intro w hSw; (try dsimp only at hSw); (go_simp <;> with_reducible rfl)
      try simp only [List.getElem_toArray, List.getElem_cons_zero, List.getElem_cons_succ, Act.put, List.setIfInBounds_toArray, List.set_cons_zero, List.set_cons_succ]
      refine wpAnyH_take (i := 13) (v := ?_) rfl (by kernel_rfl) (by kernel_rfl) (by kernel_rfl) (fun _ _ _ h => h) (Or.inl ⟨by rfl, ?_⟩) (by assumption) ?_
      rotate_left
      · intro w hSw; (try dsimp only at hSw); (go_simp <;> with_reducible rfl)
      try simp only [List.getElem_toArray, List.getElem_cons_zero, List.getElem_cons_succ, Act.put, List.setIfInBounds_toArray, List.set_cons_zero, List.set_cons_succ]
      refine wpAnyH_ready (rs := [14]) (by kernel_rfl) (by simp) ?_
      refine AllReadyH.cons rfl (fun K hK => ?_) AllReadyH.nil
      rw [if_pos (by rfl)]
      simp only [List.getElem_toArray, List.getElem_cons_zero, List.getElem_cons_succ]
      refine wp_alloc_let 69 rfl (.agg #[.int .i64 0, .bool false]) [.int .i64 0, .bool false] (by kernel_rfl) rfl ?_
      intro u1 gx hgx ru bu zu
      have RU := hide ru; have D2 := hide (below_on D1.out bu); have GX := hide (show W.heap.size ≤ gx from by rw [hgx]; exact D1.out.size); clear ru zu hgx
      refine hK.out _ _ (KL.out _ D2.out) (fun hHeld => ?_)
      clear hK K
      try simp only [Act.put, List.setIfInBounds_toArray, List.set_cons_zero, List.set_cons_succ]
      refine wpAnyH_ready (rs := [15]) (by kernel_rfl) (by simp) ?_
      refine AllReadyH.cons rfl (fun K hK => ?_) AllReadyH.nil
      rw [if_pos (by rfl)]
      simp only [List.getElem_toArray, List.getElem_cons_zero, List.getElem_cons_succ]
      refine wp_store_row 69 (.tmp 6) (.tmp 39) rfl gx rfl [.int .i64 v, .bool th] [.int .i64 0, .bool false] 69 RU.out rfl rfl (by kernel_rfl) (contentRow_oneCell v th) ?_
      intro w5 r5 c5 z5
      have B5 := hide (show Below W.heap.size W w5 from D2.out.trans (c5.belowB (fun k hk => by rw [hk]; exact GX.out) D2.out.size))
      have R5 := hide r5; clear r5 c5 z5
      refine hK.out _ _ (KL.out _ B5.out) (fun hHeld => ?_)
      clear hK K
      try simp only [Act.put]
      refine wpAnyH_take (i := 16) (v := ?_) rfl (by kernel_rfl) (by kernel_rfl) (by kernel_rfl) (fun _ _ _ h => h) (Or.inl ⟨by rfl, ?_⟩) (by assumption) ?_
      rotate_left
      · intro w hSw; (try dsimp only at hSw); (go_simp <;> with_reducible rfl)
      try simp only [List.getElem_toArray, List.getElem_cons_zero, List.getElem_cons_succ, Act.put, List.setIfInBounds_toArray, List.set_cons_zero, List.set_cons_succ]
      refine wpAnyH_done (by kernel_rfl) ?_ _
      try simp only [Act.put]
      clear hHeld KL
      clear LK
      cases known
      · go_wp2
        go_ret
        exact ⟨rfl, below_on B0.out B5.out⟩
      · have M5 := hide (HM.out.below' B5.out)
        have X5 := hide (HX.out.below' B5.out)
        have KL2 : Hid (∀ w', Below w5.heap.size w5 w' → (w'.cell? ⟨w.heap.size, 1, none⟩ = some (.int .i64 an) ∧ w'.cell? ⟨w.heap.size, 0, none⟩ = some (.int .i64 7) ∧ w'.cell? ⟨gx, 0, none⟩ = some (.int .i64 v) ∧ w'.cell? ⟨gx, 1, none⟩ = some (.bool th))) := hide (fun w' hB => ⟨(X5.out.below' hB).cell' (i := 1) rfl, (X5.out.below' hB).cell' (i := 0) rfl, (R5.out.below' hB).cell' (i := 0) rfl, (R5.out.below' hB).cell' (i := 1) rfl⟩)
        go_wp2_with fail
        refine wp_region_held_drew (S := (fun w' => w'.cell? ⟨w.heap.size, 1, none⟩ = some (.int .i64 an) ∧ w'.cell? ⟨w.heap.size, 0, none⟩ = some (.int .i64 7) ∧ w'.cell? ⟨gx, 0, none⟩ = some (.int .i64 v) ∧ w'.cell? ⟨gx, 1, none⟩ = some (.bool th))) (by kernel_rfl) (KL2.out _ (Below.refl _ _).drew) (fun hHeld => ?_)
        have F0 : Hid (Below w5.heap.size w5 w5.drew) := hide (Below.refl _ _).drew
        refine wpAnyH_take (i := 0) (v := ?_) rfl (by kernel_rfl) (by kernel_rfl) (by kernel_rfl) (fun _ _ _ h => h) (Or.inl ⟨by rfl, ?_⟩) (by assumption) ?_
        rotate_left
        · intro w hSw; (try dsimp only at hSw); (go_simp <;> with_reducible rfl)
        try simp only [List.getElem_toArray, List.getElem_cons_zero, Act.put, List.setIfInBounds_toArray, List.set_cons_zero, List.set_cons_succ]
        refine wpAnyH_take (i := 1) (v := ?_) rfl (by kernel_rfl) (by kernel_rfl) (by kernel_rfl) (fun _ _ _ h => h) (Or.inl ⟨by rfl, ?_⟩) (by assumption) ?_
        rotate_left
        · intro w hSw; (try dsimp only at hSw); (go_simp <;> with_reducible rfl)
        try simp only [List.getElem_toArray, List.getElem_cons_zero, List.getElem_cons_succ, Act.put, List.setIfInBounds_toArray, List.set_cons_zero, List.set_cons_succ]
        refine wpAnyH_take (i := 2) (v := ?_) rfl (by kernel_rfl) (by kernel_rfl) (by kernel_rfl) (fun _ _ _ h => h) (Or.inl ⟨by rfl, ?_⟩) (by assumption) ?_
        rotate_left
        · intro w hSw; (try dsimp only at hSw); (go_simp <;> with_reducible rfl)
        try simp only [List.getElem_toArray, List.getElem_cons_zero, List.getElem_cons_succ, Act.put, List.setIfInBounds_toArray, List.set_cons_zero, List.set_cons_succ]
        refine wpAnyH_take (i := 3) (v := ?_) rfl (by kernel_rfl) (by kernel_rfl) (by kernel_rfl) (fun _ _ _ h => h) (Or.inl ⟨by rfl, ?_⟩) (by assumption) ?_
        rotate_left
        · intro w hSw; (try dsimp only at hSw); (go_simp <;> with_reducible rfl)
        try simp only [List.getElem_toArray, List.getElem_cons_zero, List.getElem_cons_succ, Act.put, List.setIfInBounds_toArray, List.set_cons_zero, List.set_cons_succ]
        refine wpAnyH_take (i := 4) (v := ?_) rfl (by kernel_rfl) (by kernel_rfl) (by kernel_rfl) (fun _ _ _ h => h) (Or.inl ⟨by rfl, ?_⟩) (by assumption) ?_
        rotate_left
        · intro w hSw; (try dsimp only at hSw); (go_simp <;> with_reducible rfl)
        try simp only [List.getElem_toArray, List.getElem_cons_zero, List.getElem_cons_succ, Act.put, List.setIfInBounds_toArray, List.set_cons_zero, List.set_cons_succ]
        refine wpAnyH_take (i := 5) (v := ?_) rfl (by kernel_rfl) (by kernel_rfl) (by kernel_rfl) (fun _ _ _ h => h) (Or.inl ⟨by rfl, ?_⟩) (by assumption) ?_
        rotate_left
        · intro w hSw; (try dsimp only at hSw); (go_simp <;> with_reducible rfl)
        try simp only [List.getElem_toArray, List.getElem_cons_zero, List.getElem_cons_succ, Act.put, List.setIfInBounds_toArray, List.set_cons_zero, List.set_cons_succ]
        refine wpAnyH_take (i := 7) (v := ?_) rfl (by kernel_rfl) (by kernel_rfl) (by kernel_rfl) (fun _ _ _ h => h) (Or.inl ⟨by rfl, ?_⟩) (by assumption) ?_
        rotate_left
        · intro w hSw; (try dsimp only at hSw); (go_simp <;> with_reducible rfl)
        try simp only [List.getElem_toArray, List.getElem_cons_zero, List.getElem_cons_succ, Act.put, List.setIfInBounds_toArray, List.set_cons_zero, List.set_cons_succ]
        refine wpAnyH_take (i := 8) (v := ?_) rfl (by kernel_rfl) (by kernel_rfl) (by kernel_rfl) (fun _ _ _ h => h) (Or.inl ⟨by rfl, ?_⟩) (by assumption) ?_
        rotate_left
        · intro w hSw; (try dsimp only at hSw); (go_simp <;> with_reducible rfl)
        try simp only [List.getElem_toArray, List.getElem_cons_zero, List.getElem_cons_succ, Act.put, List.setIfInBounds_toArray, List.set_cons_zero, List.set_cons_succ]
        refine wpAnyH_ready (rs := [6]) (by kernel_rfl) (by simp) ?_
        refine AllReadyH.cons rfl (fun K hK => ?_) AllReadyH.nil
        rw [if_pos (by rfl)]
        simp only [List.getElem_toArray, List.getElem_cons_zero, List.getElem_cons_succ]
        go_simp
        refine (SE.out _).mono ?_
        rintro e v6 ⟨rfl, hb⟩
        have F1 := hide (below_on F0.out hb); clear hb
        refine hK.out _ _ (KL2.out _ F1.out) (fun hHeld => ?_)
        clear hK K
        try simp only [List.getElem_toArray, List.getElem_cons_zero, List.getElem_cons_succ, Act.put, List.setIfInBounds_toArray, List.set_cons_zero, List.set_cons_succ]
        refine wpAnyH_take (i := 9) (v := ?_) rfl (by kernel_rfl) (by kernel_rfl) (by kernel_rfl) (fun _ _ _ h => h) (Or.inl ⟨by rfl, ?_⟩) (by assumption) ?_
        rotate_left
        · intro w hSw; (try dsimp only at hSw); (go_simp <;> with_reducible rfl)
        try simp only [List.getElem_toArray, List.getElem_cons_zero, List.getElem_cons_succ, Act.put, List.setIfInBounds_toArray, List.set_cons_zero, List.set_cons_succ]
        refine wpAnyH_ready (rs := [10]) (by kernel_rfl) (by simp) ?_
        refine AllReadyH.cons rfl (fun K hK => ?_) AllReadyH.nil
        rw [if_pos (by rfl)]
        simp only [List.getElem_toArray, List.getElem_cons_zero, List.getElem_cons_succ]
        have M6 := hide (M5.out.below' F1.out)
        have hA6 := M6.out.cell (Mac.row_reg M6.out.r6 (show an < 6 by omega))
        have hf6 := M6.out.frozen (4 + an)
        rw [← Nat.add_assoc] at hA6 hf6
        refine wp_store_cell 3 (.tmp 52) (.tmp 49) rfl ⟨g, pre.length + 4 + an, none⟩ rfl (.int .i64 sv) rfl (by go_simp) ?_
        have M7 := hide (M6.out.set1 (i := 4 + an) (by omega) (Mac.row_set_reg M6.out.r6 (show an < 6 by omega) sv) (by simp [M6.out.r6]) M6.out.s6)
        rw [← Nat.add_assoc] at M7
        have C7 := hide (Chg.setCell v6 ⟨g, pre.length + 4 + an, none⟩ (.int .i64 sv))
        clear hA6 hf6
        generalize v6.setCell ⟨g, pre.length + 4 + an, none⟩ (.int .i64 sv) = w7 at *
        have hgxb : ¬ w.heap.size = g := by omega
        have hggx : ¬ gx = g := by have h1 := GX.out; have h2 := hltW; omega
        refine hK.out _ _ ⟨cell_chg C7.out (KL2.out _ F1.out).1 hgxb, cell_chg C7.out (KL2.out _ F1.out).2.1 hgxb, cell_chg C7.out (KL2.out _ F1.out).2.2.1 hggx, cell_chg C7.out (KL2.out _ F1.out).2.2.2 hggx⟩ (fun hHeld => ?_)
        refine wpAnyH_done (by kernel_rfl) ?_ _
        try simp only [Act.put]
        have hN7 := M7.out.cell (i := 3) (v := .int .i64 m.next) rfl
        have hf7 := M7.out.frozen 3
        have M8 := hide (M7.out.set1 (i := 3) (by omega) (Mac.row_set_next (m.next + 1)) M7.out.r6 M7.out.s6)
        have hwr : IntKind.i64.wrap ((m.next : Int) + 1) = ((m.next + 1 : Nat) : Int) := by rw [IntKind.wrap_i64]; omega
        have CC := hide ((Chg.of_below (below_on B0.out (below_on B5.out F1.out)) (· = g)).trans C7.out)
        clear hK hHeld KL2
        go_wp2
        go_ret
        exact ⟨rfl, M8.out, CC.out.trans (Chg.setCell _ _ _)⟩
    · skip
      rw [if_pos (by rfl)]
      simp only [List.getElem_toArray, List.getElem_cons_zero, List.getElem_cons_succ]
      refine wp_alloc_let 69 rfl (.agg #[.int .i64 0, .bool false]) [.int .i64 0, .bool false] (by kernel_rfl) rfl ?_
      intro u1 gx hgx ru bu zu
      have RU := hide ru; have D1 := hide (below_on D0.out bu); have GX := hide (show W.heap.size ≤ gx from by rw [hgx]; exact D0.out.size); clear ru zu hgx
      refine hK.out _ _ (KL.out _ D1.out) (fun hHeld => ?_)
      clear hK K
      try simp only [Act.put, List.setIfInBounds_toArray, List.set_cons_zero, List.set_cons_succ]
      refine wpAnyH_ready (rs := [10]) (by kernel_rfl) (by simp) ?_
      refine AllReadyH.cons rfl (fun K hK => ?_) AllReadyH.nil
      rw [if_pos (by rfl)]
      simp only [List.getElem_toArray, List.getElem_cons_zero, List.getElem_cons_succ]
      go_simp
      refine (LK.out _ (below_on B0.out D1.out)).mono ?_
      rintro e v1 ⟨rfl, hb⟩
      have E1 := hide hb; have D2 := hide (below_on D1.out hb); clear hb
      refine hK.out _ _ (KL.out _ D2.out) (fun hHeld => ?_)
      clear hK K
      try simp only [List.getElem_toArray, List.getElem_cons_zero, List.getElem_cons_succ, Act.put, List.setIfInBounds_toArray, List.set_cons_zero, List.set_cons_succ]
      refine wpAnyH_take (i := 11) (v := ?_) rfl (by kernel_rfl) (by kernel_rfl) (by kernel_rfl) (fun _ _ _ h => h) (Or.inl ⟨by rfl, ?_⟩) (by assumption) ?_
      rotate_left
      · intro w hSw; (try dsimp only at hSw); (go_simp <;> with_reducible rfl)
      try simp only [List.getElem_toArray, List.getElem_cons_zero, List.getElem_cons_succ, Act.put, List.setIfInBounds_toArray, List.set_cons_zero, List.set_cons_succ]
      refine wpAnyH_take (i := 12) (v := ?_) rfl (by kernel_rfl) (by kernel_rfl) (by kernel_rfl) (fun _ _ _ h => h) (Or.inl ⟨by rfl, ?_⟩) (by assumption) ?_
      rotate_left
      · intro w hSw; (try dsimp only at hSw); (go_simp <;> with_reducible rfl)
      try simp only [List.getElem_toArray, List.getElem_cons_zero, List.getElem_cons_succ, Act.put, List.setIfInBounds_toArray, List.set_cons_zero, List.set_cons_succ]
      refine wpAnyH_take (i := 13) (v := ?_) rfl (by kernel_rfl) (by kernel_rfl) (by kernel_rfl) (fun _ _ _ h => h) (Or.inl ⟨by rfl, ?_⟩) (by assumption) ?_
      rotate_left
      · intro w hSw; (try dsimp only at hSw); (go_simp <;> with_reducible rfl)
      try simp only [List.getElem_toArray, List.getElem_cons_zero, List.getElem_cons_succ, Act.put, List.setIfInBounds_toArray, List.set_cons_zero, List.set_cons_succ]
      refine wpAnyH_ready (rs := [15]) (by kernel_rfl) (by simp) ?_
      refine AllReadyH.cons rfl (fun K hK => ?_) AllReadyH.nil
      rw [if_pos (by rfl)]
      simp only [List.getElem_toArray, List.getElem_cons_zero, List.getElem_cons_succ]
      refine wp_store_row 69 (.tmp 6) (.tmp 39) rfl gx rfl [.int .i64 v, .bool th] [.int .i64 0, .bool false] 69 (RU.out.below' E1.out) rfl rfl (by kernel_rfl) (contentRow_oneCell v th) ?_
      intro w5 r5 c5 z5
      have B5 := hide (show Below W.heap.size W w5 from D2.out.trans (c5.belowB (fun k hk => by rw [hk]; exact GX.out) D2.out.size))
      have R5 := hide r5; clear r5 c5 z5
      refine hK.out _ _ (KL.out _ B5.out) (fun hHeld => ?_)
      clear hK K
      try simp only [Act.put]
      refine wpAnyH_take (i := 16) (v := ?_) rfl (by kernel_rfl) (by kernel_rfl) (by kernel_rfl) (fun _ _ _ h => h) (Or.inl ⟨by rfl, ?_⟩) (by assumption) ?_
      rotate_left
      · intro w hSw; (try dsimp only at hSw); (go_simp <;> with_reducible rfl)
      try simp only [List.getElem_toArray, List.getElem_cons_zero, List.getElem_cons_succ, Act.put, List.setIfInBounds_toArray, List.set_cons_zero, List.set_cons_succ]
      refine wpAnyH_done (by kernel_rfl) ?_ _
      try simp only [Act.put]
      clear hHeld KL
      clear LK
      cases known
      · go_wp2
        go_ret
        exact ⟨rfl, below_on B0.out B5.out⟩
      · have M5 := hide (HM.out.below' B5.out)
        have X5 := hide (HX.out.below' B5.out)
        have KL2 : Hid (∀ w', Below w5.heap.size w5 w' → (w'.cell? ⟨w.heap.size, 1, none⟩ = some (.int .i64 an) ∧ w'.cell? ⟨w.heap.size, 0, none⟩ = some (.int .i64 7) ∧ w'.cell? ⟨gx, 0, none⟩ = some (.int .i64 v) ∧ w'.cell? ⟨gx, 1, none⟩ = some (.bool th))) := hide (fun w' hB => ⟨(X5.out.below' hB).cell' (i := 1) rfl, (X5.out.below' hB).cell' (i := 0) rfl, (R5.out.below' hB).cell' (i := 0) rfl, (R5.out.below' hB).cell' (i := 1) rfl⟩)
        go_wp2_with fail
        refine wp_region_held_drew (S := (fun w' => w'.cell? ⟨w.heap.size, 1, none⟩ = some (.int .i64 an) ∧ w'.cell? ⟨w.heap.size, 0, none⟩ = some (.int .i64 7) ∧ w'.cell? ⟨gx, 0, none⟩ = some (.int .i64 v) ∧ w'.cell? ⟨gx, 1, none⟩ = some (.bool th))) (by kernel_rfl) (KL2.out _ (Below.refl _ _).drew) (fun hHeld => ?_)
        have F0 : Hid (Below w5.heap.size w5 w5.drew) := hide (Below.refl _ _).drew
        refine wpAnyH_take (i := 0) (v := ?_) rfl (by kernel_rfl) (by kernel_rfl) (by kernel_rfl) (fun _ _ _ h => h) (Or.inl ⟨by rfl, ?_⟩) (by assumption) ?_
        rotate_left
        · intro w hSw; (try dsimp only at hSw); (go_simp <;> with_reducible rfl)
        try simp only [List.getElem_toArray, List.getElem_cons_zero, Act.put, List.setIfInBounds_toArray, List.set_cons_zero, List.set_cons_succ]
        refine wpAnyH_take (i := 1) (v := ?_) rfl (by kernel_rfl) (by kernel_rfl) (by kernel_rfl) (fun _ _ _ h => h) (Or.inl ⟨by rfl, ?_⟩) (by assumption) ?_
        rotate_left
        · intro w hSw; (try dsimp only at hSw); (go_simp <;> with_reducible rfl)
        try simp only [List.getElem_toArray, List.getElem_cons_zero, List.getElem_cons_succ, Act.put, List.setIfInBounds_toArray, List.set_cons_zero, List.set_cons_succ]
        refine wpAnyH_take (i := 2) (v := ?_) rfl (by kernel_rfl) (by kernel_rfl) (by kernel_rfl) (fun _ _ _ h => h) (Or.inl ⟨by rfl, ?_⟩) (by assumption) ?_
        rotate_left
        · intro w hSw; (try dsimp only at hSw); (go_simp <;> with_reducible rfl)
        try simp only [List.getElem_toArray, List.getElem_cons_zero, List.getElem_cons_succ, Act.put, List.setIfInBounds_toArray, List.set_cons_zero, List.set_cons_succ]
        refine wpAnyH_take (i := 3) (v := ?_) rfl (by kernel_rfl) (by kernel_rfl) (by kernel_rfl) (fun _ _ _ h => h) (Or.inl ⟨by rfl, ?_⟩) (by assumption) ?_
        rotate_left
        · intro w hSw; (try dsimp only at hSw); (go_simp <;> with_reducible rfl)
        try simp only [List.getElem_toArray, List.getElem_cons_zero, List.getElem_cons_succ, Act.put, List.setIfInBounds_toArray, List.set_cons_zero, List.set_cons_succ]
        refine wpAnyH_take (i := 4) (v := ?_) rfl (by kernel_rfl) (by kernel_rfl) (by kernel_rfl) (fun _ _ _ h => h) (Or.inl ⟨by rfl, ?_⟩) (by assumption) ?_
        rotate_left
        · intro w hSw; (try dsimp only at hSw); (go_simp <;> with_reducible rfl)
        try simp only [List.getElem_toArray, List.getElem_cons_zero, List.getElem_cons_succ, Act.put, List.setIfInBounds_toArray, List.set_cons_zero, List.set_cons_succ]
        refine wpAnyH_take (i := 5) (v := ?_) rfl (by kernel_rfl) (by kernel_rfl) (by kernel_rfl) (fun _ _ _ h => h) (Or.inl ⟨by rfl, ?_⟩) (by assumption) ?_
        rotate_left
        · intro w hSw; (try dsimp only at hSw); (go_simp <;> with_reducible rfl)
        try simp only [List.getElem_toArray, List.getElem_cons_zero, List.getElem_cons_succ, Act.put, List.setIfInBounds_toArray, List.set_cons_zero, List.set_cons_succ]
        refine wpAnyH_take (i := 7) (v := ?_) rfl (by kernel_rfl) (by kernel_rfl) (by kernel_rfl) (fun _ _ _ h => h) (Or.inl ⟨by rfl, ?_⟩) (by assumption) ?_
        rotate_left
        · intro w hSw; (try dsimp only at hSw); (go_simp <;> with_reducible rfl)
        try simp only [List.getElem_toArray, List.getElem_cons_zero, List.getElem_cons_succ, Act.put, List.setIfInBounds_toArray, List.set_cons_zero, List.set_cons_succ]
        refine wpAnyH_take (i := 8) (v := ?_) rfl (by kernel_rfl) (by kernel_rfl) (by kernel_rfl) (fun _ _ _ h => h) (Or.inl ⟨by rfl, ?_⟩) (by assumption) ?_
        rotate_left
        · intro w hSw; (try dsimp only at hSw); (go_simp <;> with_reducible rfl)
        try simp only [List.getElem_toArray, List.getElem_cons_zero, List.getElem_cons_succ, Act.put, List.setIfInBounds_toArray, List.set_cons_zero, List.set_cons_succ]
        refine wpAnyH_ready (rs := [6]) (by kernel_rfl) (by simp) ?_
        refine AllReadyH.cons rfl (fun K hK => ?_) AllReadyH.nil
        rw [if_pos (by rfl)]
        simp only [List.getElem_toArray, List.getElem_cons_zero, List.getElem_cons_succ]
        go_simp
        refine (SE.out _).mono ?_
        rintro e v6 ⟨rfl, hb⟩
        have F1 := hide (below_on F0.out hb); clear hb
        refine hK.out _ _ (KL2.out _ F1.out) (fun hHeld => ?_)
        clear hK K
        try simp only [List.getElem_toArray, List.getElem_cons_zero, List.getElem_cons_succ, Act.put, List.setIfInBounds_toArray, List.set_cons_zero, List.set_cons_succ]
        refine wpAnyH_take (i := 9) (v := ?_) rfl (by kernel_rfl) (by kernel_rfl) (by kernel_rfl) (fun _ _ _ h => h) (Or.inl ⟨by rfl, ?_⟩) (by assumption) ?_
        rotate_left
        · intro w hSw; (try dsimp only at hSw); (go_simp <;> with_reducible rfl)
        try simp only [List.getElem_toArray, List.getElem_cons_zero, List.getElem_cons_succ, Act.put, List.setIfInBounds_toArray, List.set_cons_zero, List.set_cons_succ]
        refine wpAnyH_ready (rs := [10]) (by kernel_rfl) (by simp) ?_
        refine AllReadyH.cons rfl (fun K hK => ?_) AllReadyH.nil
        rw [if_pos (by rfl)]
        simp only [List.getElem_toArray, List.getElem_cons_zero, List.getElem_cons_succ]
        have M6 := hide (M5.out.below' F1.out)
        have hA6 := M6.out.cell (Mac.row_reg M6.out.r6 (show an < 6 by omega))
        have hf6 := M6.out.frozen (4 + an)
        rw [← Nat.add_assoc] at hA6 hf6
        refine wp_store_cell 3 (.tmp 52) (.tmp 49) rfl ⟨g, pre.length + 4 + an, none⟩ rfl (.int .i64 sv) rfl (by go_simp) ?_
        have M7 := hide (M6.out.set1 (i := 4 + an) (by omega) (Mac.row_set_reg M6.out.r6 (show an < 6 by omega) sv) (by simp [M6.out.r6]) M6.out.s6)
        rw [← Nat.add_assoc] at M7
        have C7 := hide (Chg.setCell v6 ⟨g, pre.length + 4 + an, none⟩ (.int .i64 sv))
        clear hA6 hf6
        generalize v6.setCell ⟨g, pre.length + 4 + an, none⟩ (.int .i64 sv) = w7 at *
        have hgxb : ¬ w.heap.size = g := by omega
        have hggx : ¬ gx = g := by have h1 := GX.out; have h2 := hltW; omega
        refine hK.out _ _ ⟨cell_chg C7.out (KL2.out _ F1.out).1 hgxb, cell_chg C7.out (KL2.out _ F1.out).2.1 hgxb, cell_chg C7.out (KL2.out _ F1.out).2.2.1 hggx, cell_chg C7.out (KL2.out _ F1.out).2.2.2 hggx⟩ (fun hHeld => ?_)
        refine wpAnyH_done (by kernel_rfl) ?_ _
        try simp only [Act.put]
        have hN7 := M7.out.cell (i := 3) (v := .int .i64 m.next) rfl
        have hf7 := M7.out.frozen 3
        have M8 := hide (M7.out.set1 (i := 3) (by omega) (Mac.row_set_next (m.next + 1)) M7.out.r6 M7.out.s6)
        have hwr : IntKind.i64.wrap ((m.next : Int) + 1) = ((m.next + 1 : Nat) : Int) := by rw [IntKind.wrap_i64]; omega
        have CC := hide ((Chg.of_below (below_on B0.out (below_on B5.out F1.out)) (· = g)).trans C7.out)
        clear hK hHeld KL2
        go_wp2
        go_ret
        exact ⟨rfl, M8.out, CC.out.trans (Chg.setCell _ _ _)⟩

end Go.Proofs.Ytlheloogmgmjnaa

namespace Go.Proofs.Ytlheloogmgmjnaa
open Go.RowKit

/-- How a record stands when its transaction has ended. -/
def PRec.endAs (ab : Bool) (out : Int) : PRec := ⟨⟨Sl.nil, Sl.nil, Sl.nil⟩, true, ab, out⟩
theorem precRow_oneCell (r : PRec) : ∀ v ∈ r.row, v.oneCell' = true := by
  intro v hv
  simp only [PRec.row, List.mem_cons, List.not_mem_nil, or_false] at hv
  rcases hv with h | h | h | h | h | h <;> subst h <;> rfl

set_option maxHeartbeats 4000000 in
set_option maxRecDepth 100000 in
theorem iEnd_gen {b : Nat} {recs : List PRec} {rcS : Sl} {ends : List Nat} {enS : Sl} (w : World) (h : InAt w b recs rcS ends enS) (n : Nat) (hn : n < recs.length) (ab : Bool) (out : Int) :
    Calls Try.prog 92 #[.pointer (some ⟨b, 2, none⟩), .int .i64 (n + 1 : Nat), .agg #[.bool ab, .int .i64 out]] w fun e w' =>
      e = .returned (.tuple #[]) ∧ Own w' 102 6 rcS ((recs.set n (PRec.endAs ab out)).flatMap PRec.row) ∧ Chg w w' (fun k => k ∈ rcS.blk) := by
  have c2 := h.c2
  rw [h.rcn] at c2
  have ht := h.txns
  have hbl := lt_of_cell c2
  obtain ⟨g, hg, hgl, -⟩ := h.record (List.getElem?_eq_getElem hn)
  have HO := hide h.rc
  have HG := hide hg
  obtain ⟨g', cur, hg', hr, _, hcl, _, hxl⟩ : ∃ g' cur, rcS.a = some ⟨g', 0, none⟩ ∧ RowAt w g' 102 cur ∧ rcS.n ≤ rcS.c ∧ cur.length = rcS.c * 6 ∧ cur.take (rcS.n * 6) = recs.flatMap PRec.row ∧ (recs.flatMap PRec.row).length = rcS.n * 6 := by
    rcases h.rc.row with ⟨h1, _⟩ | h1
    · rw [h1] at hg; simp [Sl.nil] at hg
    · exact h1
  rw [hg] at hg'
  simp at hg'
  subst hg'
  have HR := hide hr
  have hcur : rcS.n * 6 ≤ cur.length := by
    have := congrArg List.length ‹cur.take (rcS.n * 6) = recs.flatMap PRec.row›
    rw [List.length_take, hxl] at this
    omega
  have hrn := h.rcn
  have HL := hide (show n * 6 + (PRec.endAs ab out).row.length ≤ cur.length by show n * 6 + 6 ≤ _; omega)
  have HX := hide hxl
  have HRN := hide hrn
  rw [hg] at c2
  rename_i hx1 hx2
  clear h hg hr hcl hxl hcur hrn hx1 hx2
  have hn' : (n : Int) < (recs.length : Int) := by omega
  have hbne : ¬ b = w.heap.size := by omega
  have hgne : ¬ g = w.heap.size := by omega
  have hwn : IntKind.i64.wrap (n : Int) = (n : Int) := by rw [IntKind.wrap_i64]; omega
  have hws : IntKind.i64.wrap (((n + 1 : Nat) : Int) - 1) = (n : Int) := by rw [IntKind.wrap_i64]; omega
  simp only [Int.natCast_add, Int.natCast_one] at hws ⊢
  go_enter Try.func92, Try.ntmps92
  go_wp2
  refine wp_region_U (L := #[true, true, true, true, true, true, true, true, true, false]) (S := (fun w' => w' = (w.alloc (.cells #[.bool ab, .int .i64 out] 100)).drew)) (by kernel_rfl) rfl ?_
  refine wpU_takeC (i := 0) (v := ?_) rfl (by kernel_rfl) (by kernel_rfl) (by kernel_rfl) (by kernel_rfl) (by kernel_rfl) (fun _ _ _ h => h) (by rfl) ?_ ?_
  rotate_left
  · intro wx hS; subst hS; refine lands_value ?_ rfl; go_simp <;> with_reducible rfl
  try simp only [List.getElem_toArray, List.getElem_cons_zero, Act.put, List.setIfInBounds_toArray, List.set_cons_zero, List.set_cons_succ]
  refine wpU_takeC (i := 1) (v := ?_) rfl (by kernel_rfl) (by kernel_rfl) (by kernel_rfl) (by kernel_rfl) (by kernel_rfl) (fun _ _ _ h => h) (by rfl) ?_ ?_
  rotate_left
  · intro wx hS; subst hS; refine lands_value ?_ rfl; go_simp <;> with_reducible rfl
  try simp only [List.getElem_toArray, List.getElem_cons_zero, List.getElem_cons_succ, Act.put, List.setIfInBounds_toArray, List.set_cons_zero, List.set_cons_succ]
  refine wpU_takeC (i := 2) (v := ?_) rfl (by kernel_rfl) (by kernel_rfl) (by kernel_rfl) (by kernel_rfl) (by kernel_rfl) (fun _ _ _ h => h) (by rfl) ?_ ?_
  rotate_left
  · intro wx hS; subst hS; refine lands_value ?_ rfl; go_simp <;> with_reducible rfl
  try simp only [List.getElem_toArray, List.getElem_cons_zero, List.getElem_cons_succ, Act.put, List.setIfInBounds_toArray, List.set_cons_zero, List.set_cons_succ]
  refine wpU_takeC (i := 3) (v := ?_) rfl (by kernel_rfl) (by kernel_rfl) (by kernel_rfl) (by kernel_rfl) (by kernel_rfl) (fun _ _ _ h => h) (by rfl) ?_ ?_
  rotate_left
  · intro wx hS; subst hS; refine lands_value ?_ rfl; go_simp <;> with_reducible rfl
  try simp only [List.getElem_toArray, List.getElem_cons_zero, List.getElem_cons_succ, Act.put, List.setIfInBounds_toArray, List.set_cons_zero, List.set_cons_succ]
  refine wpU_takeC (i := 4) (v := ?_) rfl (by kernel_rfl) (by kernel_rfl) (by kernel_rfl) (by kernel_rfl) (by kernel_rfl) (fun _ _ _ h => h) (by rfl) ?_ ?_
  rotate_left
  · intro wx hS; subst hS; refine lands_value ?_ rfl; go_simp <;> with_reducible rfl
  try simp only [List.getElem_toArray, List.getElem_cons_zero, List.getElem_cons_succ, Act.put, List.setIfInBounds_toArray, List.set_cons_zero, List.set_cons_succ]
  refine wpU_takeC (i := 5) (v := ?_) rfl (by kernel_rfl) (by kernel_rfl) (by kernel_rfl) (by kernel_rfl) (by kernel_rfl) (fun _ _ _ h => h) (by rfl) ?_ ?_
  rotate_left
  · intro wx hS; subst hS; refine lands_value ?_ rfl; go_simp <;> with_reducible rfl
  try simp only [List.getElem_toArray, List.getElem_cons_zero, List.getElem_cons_succ, Act.put, List.setIfInBounds_toArray, List.set_cons_zero, List.set_cons_succ]
  refine wpU_takeC (i := 6) (v := ?_) rfl (by kernel_rfl) (by kernel_rfl) (by kernel_rfl) (by kernel_rfl) (by kernel_rfl) (fun _ _ _ h => h) (by rfl) ?_ ?_
  rotate_left
  · intro wx hS; subst hS; refine lands_value ?_ rfl; go_simp <;> with_reducible rfl
  try simp only [List.getElem_toArray, List.getElem_cons_zero, List.getElem_cons_succ, Act.put, List.setIfInBounds_toArray, List.set_cons_zero, List.set_cons_succ]
  refine wpU_takeC (i := 7) (v := ?_) rfl (by kernel_rfl) (by kernel_rfl) (by kernel_rfl) (by kernel_rfl) (by kernel_rfl) (fun _ _ _ h => h) (by rfl) ?_ ?_
  rotate_left
  · intro wx hS; subst hS; refine lands_value ?_ rfl; go_simp <;> with_reducible rfl
  try simp only [List.getElem_toArray, List.getElem_cons_zero, List.getElem_cons_succ, Act.put, List.setIfInBounds_toArray, List.set_cons_zero, List.set_cons_succ]
  refine wpU_takeC (i := 8) (v := ?_) rfl (by kernel_rfl) (by kernel_rfl) (by kernel_rfl) (by kernel_rfl) (by kernel_rfl) (fun _ _ _ h => h) (by rfl) ?_ ?_
  rotate_left
  · intro wx hS; subst hS; refine lands_value ?_ rfl; go_simp <;> with_reducible rfl
  try simp only [List.getElem_toArray, List.getElem_cons_zero, List.getElem_cons_succ, Act.put, List.setIfInBounds_toArray, List.set_cons_zero, List.set_cons_succ]
  refine wpU_leaf' _ (by kernel_rfl) ?_
  intro wx hS
  refine wpAny_last (n := 9) (by kernel_rfl) (by kernel_rfl) rfl (by rfl) ?_
  subst hS
  have hB := (below_alloc1 w (.cells #[.bool ab, .int .i64 out] 100)).drew
  refine wp_store_mid 102 (.tmp 14) (.tmp 13) rfl g (n * 6) rfl (PRec.endAs ab out).row cur 102 (HR.out.below' hB) rfl HL.out (by kernel_rfl) (precRow_oneCell _) ?_
  intro w9 r9 c9 _
  have C9 := hide ((Chg.of_below hB (· = g)).trans c9)
  have R9 := hide r9
  clear r9 c9 hB
  simp only [Act.put]
  go_wp2
  go_end0
  refine ⟨rfl, ?_, C9.out.mono (fun k _ hk => by rw [hk]; simp [Sl.blk, HG.out])⟩
  rw [flatMap_set PRec.row 6 (fun _ => rfl) _ _ _ hn]
  refine HO.out.splice HG.out (by show n * 6 + 6 ≤ _; rw [HX.out, HRN.out]; omega) (fun cur' hc' => ?_)
  obtain rfl : cur' = cur := by
    have := hc'.symm.trans HR.out
    simpa using this
  exact R9.out

end Go.Proofs.Ytlheloogmgmjnaa

namespace Go.Proofs.Ytlheloogmgmjnaa
open Go.RowKit

/-- What the machine says of the keys, against what is said and what the keys will have. -/
def SaysRel (says : List Say) (said : List Bool) (out : List Slot) : Prop :=
  ∀ i, i < said.length → ∃ s, says[i]? = some s ∧ s.said = said.getD i false ∧ (s.said = true → (⟨s.v, s.th⟩ : Slot) = out.getD i Slot.none)

/-- The machine stands as the document does behind some instructions. -/
structure MacRel (m : Mac) (s : GSt) : Prop where
  next : m.next = s.pc
  regs : m.regs = s.reg
  ab : m.ab = false
  says : SaysRel m.says s.said s.out

def Mac.begin (h : TH) : Mac := ⟨h, 0, List.replicate 6 0, List.replicate 6 ⟨false, 0, false⟩, false⟩
theorem SaysRel.put {says : List Say} {said : List Bool} {out : List Slot} (h : SaysRel says said out) {a : Nat} (ha : a < said.length) (hs : said.length ≤ says.length) (ho : out.length = said.length) (v : Int) (th : Bool) :
    SaysRel (says.set a ⟨true, v, th⟩) (said.set a true) (out.set a ⟨v, th⟩) := by
  intro i hi
  rw [List.length_set] at hi
  by_cases e : a = i
  · subst e
    refine ⟨⟨true, v, th⟩, by simp [show a < says.length by omega], by simp [List.getD, ha], fun _ => by simp [List.getD, show a < out.length by omega]⟩
  · obtain ⟨s, h1, h2, h3⟩ := h i hi
    refine ⟨s, by rw [List.getElem?_set_ne e]; exact h1, by rw [h2]; simp [List.getD, List.getElem?_set_ne e], fun hs => by rw [h3 hs]; simp [List.getD, List.getElem?_set_ne e]⟩

end Go.Proofs.Ytlheloogmgmjnaa
