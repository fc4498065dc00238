import Derived.Test.YtlheloogmgmjnaaGreatProg
import Derived.Test.YtlheloogmgmjnaaGreatChg
import Derived.Test.YtlheloogmgmjnaaGreatIsSound
import Derived.Test.YtlheloogmgmjnaaGreatStill
namespace Go.Proofs.YtlheloogmgmjnaaGreat
open Go.RowKit

def regOf (reg : List Int) (i : Int) : Int := reg.getD i.toNat 0

/-- What an instruction does with the registers, and with what the keys that are written will have. -/
def oneStep (x : Ins) (R : List Int) (hv : List Slot) (reg : List Int) (out : List Slot) : List Int × List Slot :=
  if x.op = 1 then (reg.set x.a.toNat x.b, out)
  else if x.op = 2 then (reg.set x.a.toNat (wrap64 (regOf reg x.b + regOf reg x.c)), out)
  else if x.op = 3 then (reg.set x.a.toNat (wrap64 (regOf reg x.b - regOf reg x.c)), out)
  else if x.op = 4 then (reg.set x.a.toNat (wrap64 (regOf reg x.b * regOf reg x.c)), out)
  else if x.op = 5 then (reg.set x.a.toNat (if regOf reg x.b < regOf reg x.c then 1 else 0), out)
  else if x.op = 6 then (reg.set x.a.toNat (hv.getD (regOf R x.b).toNat Slot.none).v, out)
  else if x.op = 7 then (reg.set x.a.toNat (if (hv.getD (regOf R x.b).toNat Slot.none).th then 1 else 0), out)
  else if x.op = 8 then (reg, out.set x.a.toNat ⟨regOf reg x.b, true⟩)
  else if x.op = 9 then (reg, out.set x.a.toNat ⟨0, false⟩)
  else (reg, out)

theorem ints_set (xs : List Int) (i : Nat) (y : Int) : (ints xs).set i (.int .i64 y) = ints (xs.set i y) := by
  simp [ints, List.map_set]

theorem chg_end {w : World} {a : Addr} {v : Value} {o1 o2 : Obj} : Chg w (((w.setCell a v).alloc o1).alloc o2) (· = a.block) :=
  (Chg.setCell w a v).trans ((Chg.of_below (below_alloc1 _ _) _).trans (Chg.of_below (below_alloc1 _ _) _))
theorem chg_end2 {w : World} {a : Addr} {b : Addr} {v u : Value} {o1 o2 : Obj} (h : b.block = a.block) : Chg w ((((w.setCell a v).setCell b u).alloc o1).alloc o2) (· = a.block) :=
  (Chg.setCell w a v).trans (((Chg.setCell _ b u).mono (fun _ _ hk => hk.trans h)).trans ((Chg.of_below (below_alloc1 _ _) _).trans (Chg.of_below (below_alloc1 _ _) _)))

set_option maxHeartbeats 1000000 in
set_option maxRecDepth 100000 in
theorem one_1 (a : Nat) (b c : Int) (ra wa ca ha oa : Option Addr) (rn rc wn wc cn cc hn hc on oc : Nat) (gr : Nat) (reg : List Int) (w : World) (hl : reg.length = 6) (hr : RowAt w gr 3 (ints reg)) (ha6 : a < 6) :
    Calls Tryz.prog 156 #[.agg #[.int .i64 1, .int .i64 a, .int .i64 b, .int .i64 c], .agg #[.slice ra rn rc, .slice wa wn wc, .slice ca cn cc], .slice ha hn hc, .slice (some ⟨gr, 0, none⟩) 6 6, .slice oa on oc] w fun e w' =>
      e = .returned (.tuple #[]) ∧ RowAt w' gr 3 (ints (reg.set a b)) ∧ Chg w w' (· = gr) := by
  have hlt := hr.lt
  have hA := hr.cell' (ints_getD reg a (by omega))
  generalize reg.getD a 0 = x at *
  have hf := hr.frozen a
  have HR := hide ((hr.set a (.int .i64 b)))
  rw [ints_set] at HR
  clear hr
  go_enter Tryz.func156, Tryz.ntmps156
  go_wp2
  go_end0
  exact ⟨rfl, (HR.out.alloc _).alloc _, chg_end⟩

set_option maxHeartbeats 1000000 in
set_option maxRecDepth 100000 in
theorem one_2 (a b c : Nat) (ra wa ca ha oa : Option Addr) (rn rc wn wc cn cc hn hc on oc : Nat) (gr : Nat) (reg : List Int) (w : World) (hl : reg.length = 6) (hr : RowAt w gr 3 (ints reg)) (ha6 : a < 6) (hb6 : b < 6) (hc6 : c < 6) :
    Calls Tryz.prog 156 #[.agg #[.int .i64 2, .int .i64 a, .int .i64 b, .int .i64 c], .agg #[.slice ra rn rc, .slice wa wn wc, .slice ca cn cc], .slice ha hn hc, .slice (some ⟨gr, 0, none⟩) 6 6, .slice oa on oc] w fun e w' =>
      e = .returned (.tuple #[]) ∧ RowAt w' gr 3 (ints (reg.set a (wrap64 (reg.getD b 0 + reg.getD c 0)))) ∧ Chg w w' (· = gr) := by
  have hB := hr.cell' (ints_getD reg b (by omega))
  have hC := hr.cell' (ints_getD reg c (by omega))
  generalize reg.getD b 0 = y at *
  generalize reg.getD c 0 = z at *
  have hlt := hr.lt
  have hA := hr.cell' (ints_getD reg a (by omega))
  generalize reg.getD a 0 = x at *
  have hf := hr.frozen a
  have HR := hide ((hr.set a (.int .i64 (wrap64 (y + z)))))
  rw [ints_set] at HR
  clear hr
  go_enter Tryz.func156, Tryz.ntmps156
  go_wp2
  go_region
  go_wp2
  go_end0
  exact ⟨rfl, ((HR.out.alloc _).alloc _).drew, chg_end.drew⟩

set_option maxHeartbeats 1000000 in
set_option maxRecDepth 100000 in
theorem one_3 (a b c : Nat) (ra wa ca ha oa : Option Addr) (rn rc wn wc cn cc hn hc on oc : Nat) (gr : Nat) (reg : List Int) (w : World) (hl : reg.length = 6) (hr : RowAt w gr 3 (ints reg)) (ha6 : a < 6) (hb6 : b < 6) (hc6 : c < 6) :
    Calls Tryz.prog 156 #[.agg #[.int .i64 3, .int .i64 a, .int .i64 b, .int .i64 c], .agg #[.slice ra rn rc, .slice wa wn wc, .slice ca cn cc], .slice ha hn hc, .slice (some ⟨gr, 0, none⟩) 6 6, .slice oa on oc] w fun e w' =>
      e = .returned (.tuple #[]) ∧ RowAt w' gr 3 (ints (reg.set a (wrap64 (reg.getD b 0 - reg.getD c 0)))) ∧ Chg w w' (· = gr) := by
  have hB := hr.cell' (ints_getD reg b (by omega))
  have hC := hr.cell' (ints_getD reg c (by omega))
  generalize reg.getD b 0 = y at *
  generalize reg.getD c 0 = z at *
  have hlt := hr.lt
  have hA := hr.cell' (ints_getD reg a (by omega))
  generalize reg.getD a 0 = x at *
  have hf := hr.frozen a
  have HR := hide ((hr.set a (.int .i64 (wrap64 (y - z)))))
  rw [ints_set] at HR
  clear hr
  go_enter Tryz.func156, Tryz.ntmps156
  go_wp2
  go_region
  go_wp2
  go_end0
  exact ⟨rfl, ((HR.out.alloc _).alloc _).drew, chg_end.drew⟩

set_option maxHeartbeats 1000000 in
set_option maxRecDepth 100000 in
theorem one_4 (a b c : Nat) (ra wa ca ha oa : Option Addr) (rn rc wn wc cn cc hn hc on oc : Nat) (gr : Nat) (reg : List Int) (w : World) (hl : reg.length = 6) (hr : RowAt w gr 3 (ints reg)) (ha6 : a < 6) (hb6 : b < 6) (hc6 : c < 6) :
    Calls Tryz.prog 156 #[.agg #[.int .i64 4, .int .i64 a, .int .i64 b, .int .i64 c], .agg #[.slice ra rn rc, .slice wa wn wc, .slice ca cn cc], .slice ha hn hc, .slice (some ⟨gr, 0, none⟩) 6 6, .slice oa on oc] w fun e w' =>
      e = .returned (.tuple #[]) ∧ RowAt w' gr 3 (ints (reg.set a (wrap64 (reg.getD b 0 * reg.getD c 0)))) ∧ Chg w w' (· = gr) := by
  have hB := hr.cell' (ints_getD reg b (by omega))
  have hC := hr.cell' (ints_getD reg c (by omega))
  generalize reg.getD b 0 = y at *
  generalize reg.getD c 0 = z at *
  have hlt := hr.lt
  have hA := hr.cell' (ints_getD reg a (by omega))
  generalize reg.getD a 0 = x at *
  have hf := hr.frozen a
  have HR := hide ((hr.set a (.int .i64 (wrap64 (y * z)))))
  rw [ints_set] at HR
  clear hr
  go_enter Tryz.func156, Tryz.ntmps156
  go_wp2
  go_region
  go_wp2
  go_end0
  exact ⟨rfl, ((HR.out.alloc _).alloc _).drew, chg_end.drew⟩

set_option maxHeartbeats 1000000 in
set_option maxRecDepth 100000 in
theorem one_5 (a b c : Nat) (ra wa ca ha oa : Option Addr) (rn rc wn wc cn cc hn hc on oc : Nat) (gr : Nat) (reg : List Int) (w : World) (hl : reg.length = 6) (hr : RowAt w gr 3 (ints reg)) (ha6 : a < 6) (hb6 : b < 6) (hc6 : c < 6) :
    Calls Tryz.prog 156 #[.agg #[.int .i64 5, .int .i64 a, .int .i64 b, .int .i64 c], .agg #[.slice ra rn rc, .slice wa wn wc, .slice ca cn cc], .slice ha hn hc, .slice (some ⟨gr, 0, none⟩) 6 6, .slice oa on oc] w fun e w' =>
      e = .returned (.tuple #[]) ∧ RowAt w' gr 3 (ints (reg.set a (if reg.getD b 0 < reg.getD c 0 then 1 else 0))) ∧ Chg w w' (· = gr) := by
  have hB := hr.cell' (ints_getD reg b (by omega))
  have hC := hr.cell' (ints_getD reg c (by omega))
  generalize reg.getD b 0 = y at *
  generalize reg.getD c 0 = z at *
  have hlt := hr.lt
  have hA := hr.cell' (ints_getD reg a (by omega))
  generalize reg.getD a 0 = x at *
  have hf := hr.frozen a
  by_cases hyz : y < z
  · rw [if_pos hyz]
    have HR := hide ((hr.set a (.int .i64 1)))
    rw [ints_set] at HR
    clear hr
    go_enter Tryz.func156, Tryz.ntmps156
    go_wp2
    go_region
    go_wp2
    go_end0
    exact ⟨rfl, ((HR.out.alloc _).alloc _).drew, chg_end.drew⟩
  · rw [if_neg hyz]
    have HR := hide ((hr.set a (.int .i64 0)))
    rw [ints_set] at HR
    clear hr
    go_enter Tryz.func156, Tryz.ntmps156
    go_wp2
    go_region
    go_wp2
    go_end0
    exact ⟨rfl, ((HR.out.alloc _).alloc _).drew, chg_end.drew⟩

end Go.Proofs.YtlheloogmgmjnaaGreat
