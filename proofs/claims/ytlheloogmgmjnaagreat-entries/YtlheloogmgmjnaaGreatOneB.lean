import Derived.Test.YtlheloogmgmjnaaGreatOne
namespace Go.Proofs.YtlheloogmgmjnaaGreat
open Go.RowKit

set_option maxHeartbeats 1000000 in
set_option maxRecDepth 100000 in
theorem one_6 (a b : Nat) (c : Int) (ra wa ca ha oa : Option Addr) (rn rc wn wc cn cc hn hc on oc : Nat) (gr : Nat) (reg : List Int) (w : World) (hl : reg.length = 6) (hr : RowAt w gr 3 (ints reg)) (ha6 : a < 6) (R : List Int) (hv : List Slot) (k : Nat) (hR : IntsAt w ra R) (hRl : R.length = rn) (hbR : b < R.length) (hk : R.getD b 0 = k) (hV : SlotsAt w ha hv) (hVl : hv.length = hn) (hkV : k < hv.length) :
    Calls Tryz.prog 156 #[.agg #[.int .i64 6, .int .i64 a, .int .i64 b, .int .i64 c], .agg #[.slice ra rn rc, .slice wa wn wc, .slice ca cn cc], .slice ha hn hc, .slice (some ⟨gr, 0, none⟩) 6 6, .slice oa on oc] w fun e w' =>
      e = .returned (.tuple #[]) ∧ RowAt w' gr 3 (ints (reg.set a (hv.getD k Slot.none).v)) ∧ Chg w w' (· = gr) := by
  obtain ⟨b1, o1, rfl, hRc, hb1⟩ := hR.at hbR
  replace hRc := hRc b hbR
  rw [hk] at hRc
  obtain ⟨b2, o2, rfl, hVc, hb2⟩ := hV.at hkV
  obtain ⟨hV0, hV1⟩ := hVc k hkV
  subst hRl hVl
  clear hR hV hVc hk
  generalize hv.getD k Slot.none = sl at *
  obtain ⟨sv, sth⟩ := sl
  simp only at hV0 hV1
  have hlt := hr.lt
  have hA := hr.cell' (ints_getD reg a (by omega))
  generalize reg.getD a 0 = x at *
  have hf := hr.frozen a
  have HR := hide ((hr.set a (.int .i64 sv)))
  rw [ints_set] at HR
  clear hr
  go_enter Tryz.func156, Tryz.ntmps156
  go_wp2
  go_region
  go_wp2
  go_end0
  exact ⟨rfl, ((HR.out.alloc _).alloc _).drew, chg_end.drew⟩

set_option maxHeartbeats 1000000 in
set_option maxRecDepth 100000 in
theorem one_7 (a b : Nat) (c : Int) (ra wa ca ha oa : Option Addr) (rn rc wn wc cn cc hn hc on oc : Nat) (gr : Nat) (reg : List Int) (w : World) (hl : reg.length = 6) (hr : RowAt w gr 3 (ints reg)) (ha6 : a < 6) (R : List Int) (hv : List Slot) (k : Nat) (hR : IntsAt w ra R) (hRl : R.length = rn) (hbR : b < R.length) (hk : R.getD b 0 = k) (hV : SlotsAt w ha hv) (hVl : hv.length = hn) (hkV : k < hv.length) :
    Calls Tryz.prog 156 #[.agg #[.int .i64 7, .int .i64 a, .int .i64 b, .int .i64 c], .agg #[.slice ra rn rc, .slice wa wn wc, .slice ca cn cc], .slice ha hn hc, .slice (some ⟨gr, 0, none⟩) 6 6, .slice oa on oc] w fun e w' =>
      e = .returned (.tuple #[]) ∧ RowAt w' gr 3 (ints (reg.set a (if (hv.getD k Slot.none).th then 1 else 0))) ∧ Chg w w' (· = gr) := by
  obtain ⟨b1, o1, rfl, hRc, hb1⟩ := hR.at hbR
  replace hRc := hRc b hbR
  rw [hk] at hRc
  obtain ⟨b2, o2, rfl, hVc, hb2⟩ := hV.at hkV
  obtain ⟨hV0, hV1⟩ := hVc k hkV
  subst hRl hVl
  clear hR hV hVc hk
  generalize hv.getD k Slot.none = sl at *
  obtain ⟨sv, sth⟩ := sl
  simp only at hV0 hV1
  have hlt := hr.lt
  have hA := hr.cell' (ints_getD reg a (by omega))
  generalize reg.getD a 0 = x at *
  have hf := hr.frozen a
  cases sth
  · have HR := hide ((hr.set a (.int .i64 0)))
    rw [ints_set] at HR
    clear hr
    go_enter Tryz.func156, Tryz.ntmps156
    go_wp2
    go_end0
    exact ⟨rfl, (HR.out.alloc _).alloc _, chg_end⟩
  · have HR := hide ((hr.set a (.int .i64 1)))
    rw [ints_set] at HR
    clear hr
    go_enter Tryz.func156, Tryz.ntmps156
    go_wp2
    go_end0
    exact ⟨rfl, (HR.out.alloc _).alloc _, chg_end⟩

set_option maxHeartbeats 1000000 in
set_option maxRecDepth 100000 in
theorem one_8 (a b : Nat) (c : Int) (ra wa ca ha : Option Addr) (rn rc wn wc cn cc hn hc oc : Nat) (gr go : Nat) (reg : List Int) (out : List Slot) (w : World) (hl : reg.length = 6) (hr : RowAt w gr 3 (ints reg)) (ho : RowAt w go 172 (slotCells out)) (ha6 : a < out.length) (hb6 : b < 6) :
    Calls Tryz.prog 156 #[.agg #[.int .i64 8, .int .i64 a, .int .i64 b, .int .i64 c], .agg #[.slice ra rn rc, .slice wa wn wc, .slice ca cn cc], .slice ha hn hc, .slice (some ⟨gr, 0, none⟩) 6 6, .slice (some ⟨go, 0, none⟩) out.length oc] w fun e w' =>
      e = .returned (.tuple #[]) ∧ RowAt w' go 172 (slotCells (out.set a ⟨reg.getD b 0, true⟩)) ∧ Chg w w' (· = go) := by
  have hlt := ho.lt
  obtain ⟨hA0, hA1⟩ := slotCells_get out a ha6
  replace hA0 := ho.cell' hA0
  replace hA1 := ho.cell' hA1
  have hf := ho.frozen
  have hB := hr.cell' (ints_getD reg b (by omega))
  have hlr := hr.lt
  have hf0 := hf (a * 2)
  have hf1 := hf (a * 2 + 1)
  clear hf
  generalize reg.getD b 0 = y at *
  have HR := hide ((ho.set (a * 2) (.int .i64 y)).set (a * 2 + 1) (.bool true))
  rw [slotCells_set out ⟨y, true⟩ a ha6] at HR
  clear hr ho
  go_enter Tryz.func156, Tryz.ntmps156
  go_wp2
  go_region
  go_wp2
  go_end0
  exact ⟨rfl, ((HR.out.alloc _).alloc _).drew, (chg_end2 (a := ⟨go, a * 2, none⟩) (b := ⟨go, a * 2 + 1, none⟩) rfl).drew⟩

set_option maxHeartbeats 1000000 in
set_option maxRecDepth 100000 in
theorem one_9 (a : Nat) (b c : Int) (ra wa ca ha : Option Addr) (rn rc wn wc cn cc hn hc oc : Nat) (gr go : Nat) (out : List Slot) (w : World) (ho : RowAt w go 172 (slotCells out)) (ha6 : a < out.length)  :
    Calls Tryz.prog 156 #[.agg #[.int .i64 9, .int .i64 a, .int .i64 b, .int .i64 c], .agg #[.slice ra rn rc, .slice wa wn wc, .slice ca cn cc], .slice ha hn hc, .slice (some ⟨gr, 0, none⟩) 6 6, .slice (some ⟨go, 0, none⟩) out.length oc] w fun e w' =>
      e = .returned (.tuple #[]) ∧ RowAt w' go 172 (slotCells (out.set a ⟨0, false⟩)) ∧ Chg w w' (· = go) := by
  have hlt := ho.lt
  obtain ⟨hA0, hA1⟩ := slotCells_get out a ha6
  replace hA0 := ho.cell' hA0
  replace hA1 := ho.cell' hA1
  have hf := ho.frozen
  have HR := hide ((ho.set (a * 2) (.int .i64 0)).set (a * 2 + 1) (.bool false))
  rw [slotCells_set out ⟨0, false⟩ a ha6] at HR
  clear ho
  go_enter Tryz.func156, Tryz.ntmps156
  go_wp2
  go_end0
  exact ⟨rfl, (HR.out.alloc _).alloc _, chg_end2 (a := ⟨go, a * 2, none⟩) (b := ⟨go, a * 2 + 1, none⟩) rfl⟩

set_option maxHeartbeats 1000000 in
set_option maxRecDepth 100000 in
theorem one_no (op a b c : Int) (ra wa ca ha ga oa : Option Addr) (rn rc wn wc cn cc hn hc gn gc on oc : Nat) (w : World) (h : 9 < op) :
    Calls Tryz.prog 156 #[.agg #[.int .i64 op, .int .i64 a, .int .i64 b, .int .i64 c], .agg #[.slice ra rn rc, .slice wa wn wc, .slice ca cn cc], .slice ha hn hc, .slice ga gn gc, .slice oa on oc] w fun e w' =>
      e = .returned (.tuple #[]) ∧ Below w.heap.size w w' := by
  have e1 : (op == 1) = false := by rw [beq_eq_false_iff_ne]; omega
  have e2 : (op == 2) = false := by rw [beq_eq_false_iff_ne]; omega
  have e3 : (op == 3) = false := by rw [beq_eq_false_iff_ne]; omega
  have e4 : (op == 4) = false := by rw [beq_eq_false_iff_ne]; omega
  have e5 : (op == 5) = false := by rw [beq_eq_false_iff_ne]; omega
  have e6 : (op == 6) = false := by rw [beq_eq_false_iff_ne]; omega
  have e7 : (op == 7) = false := by rw [beq_eq_false_iff_ne]; omega
  have e8 : (op == 8) = false := by rw [beq_eq_false_iff_ne]; omega
  have e9 : (op == 9) = false := by rw [beq_eq_false_iff_ne]; omega
  go_enter Tryz.func156, Tryz.ntmps156
  go_wp2
  go_end0
  exact ⟨rfl, below_on (below_alloc1 _ _) (below_alloc1 _ _)⟩

end Go.Proofs.YtlheloogmgmjnaaGreat
