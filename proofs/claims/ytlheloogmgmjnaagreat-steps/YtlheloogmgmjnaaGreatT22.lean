import Derived.Test.YtlheloogmgmjnaaGreatT16
import Derived.Test.YtlheloogmgmjnaaGreatT07
import Derived.Test.YtlheloogmgmjnaaGreatT11
namespace Go.Proofs.YtlheloogmgmjnaaGreat
open Go.RowKit

/-- What the document's waits answers. -/
def RM.waitN (R : RM) (m : Nat) (x : Ins) : Bool :=
  if x.op = 6 ∨ x.op = 7 then waitsIn R.tasks (((R.tasks[m]?).map fun t => t.tx.r.getD x.b.toNat 0).getD 0) m else false

theorem rwaits_any (R : RM) (w : World) (h : RefAt w R) (m : Nat) (hm : m < R.tasks.length) (x : Ins) (hx : soundB x (R.tasks[m]).tx.r.length (R.tasks[m]).tx.w.length = true) :
    Calls Tryz.prog 118 #[.pointer (some ⟨R.b, 0, none⟩), .int .i64 (m + 1 : Nat), .agg #[.int .i64 x.op, .int .i64 x.a, .int .i64 x.b, .int .i64 x.c]] w fun e w' => e = .returned (.bool (R.waitN m x)) ∧ Below w.heap.size w w' := by
  by_cases ho : x.op = 6 ∨ x.op = 7
  · obtain ⟨_, _, _, _, _, hL, _, _⟩ := soundB_cases hx
    obtain ⟨hb0, hbl⟩ := hL ho
    have e : R.waitN m x = waitsIn R.tasks ((R.tasks[m]).tx.r.getD x.b.toNat 0) m := by
      unfold RM.waitN; rw [if_pos ho]; simp [hm]
    rw [e]
    exact rwaits_yes R w h (m + 1) (by omega) (by omega) x ho hb0 hbl
  · have e : R.waitN m x = false := by unfold RM.waitN; rw [if_neg ho]
    rw [e]
    exact rwaits_no R w (m + 1) x ho

set_option maxHeartbeats 4000000 in
set_option maxRecDepth 100000 in
theorem rdoer_wait (R : RM) (w : World) (h : RefAt w R) (d m : Nat) (hd : d < R.doers) (h0 : R.hand.getD d 0 = m + 1) (hm : m < R.tasks.length) (hk : R.dids.getD d 0 < (R.tasks[m]).crs.did.length) (hpc : (R.tasks[m]).crs.did.getD (R.dids.getD d 0) 0 < (R.tasks[m]).tx.c.length)
    (hw : R.waitN m ((R.tasks[m]).tx.c.getD ((R.tasks[m]).crs.did.getD (R.dids.getD d 0) 0) Ins.zero) = true) :
    Calls Tryz.prog 80 #[.pointer (some ⟨R.b, 0, none⟩), .int .i64 d] w fun e w' => e = .returned (.bool false) ∧ Below w.heap.size w w' := by
  obtain ⟨gh, hgh, ch⟩ := h.handCell hd
  obtain ⟨gd, hgd, cd⟩ := h.didCell hd
  obtain ⟨g, hg, hgl, hc⟩ := h.task hm
  have hT := h.tsk _ (List.getElem_mem hm)
  have c7 := h.row.cell' (i := 7) (v := .slice R.haS.a R.haS.n R.haS.c) rfl
  have c3 := h.row.cell' (i := 3) (v := .slice R.tkS.a R.tkS.n R.tkS.c) rfl
  have c8 := h.row.cell' (i := 8) (v := .slice R.diS.a R.diS.n R.diS.c) rfl
  rw [h.han, h.hal, hgh] at c7
  rw [h.din, h.dil, hgd] at c8
  rw [h.tkn, hg] at c3
  rw [h0] at ch
  have WT := hide (fun wx (hb : Below w.heap.size w wx) => rwaits_any R wx (h.below hb) m hm ((R.tasks[m]).tx.c.getD ((R.tasks[m]).crs.did.getD (R.dids.getD d 0) 0) Ins.zero) ((checkN_sound _ hT.chk).2.2.2.2.2 _ (by rw [List.getD, List.getElem?_eq_getElem hpc]; simp)))
  have d6 := h.doers6
  have ht := h.txns
  have hd' : (d : Int) < (R.doers : Int) := by omega
  have hm' : (m : Int) < (R.tasks.length : Int) := by omega
  have e2 := hc 2 (.slice (R.tasks[m]).h.c.a (R.tasks[m]).h.c.n (R.tasks[m]).h.c.c) rfl
  have e3 := hc 3 (.slice (R.tasks[m]).didS.a (R.tasks[m]).didS.n (R.tasks[m]).didS.c) rfl
  rw [hT.tx.cl] at e2
  rw [hT.didn] at e3
  obtain ⟨bc, oc, hbc, hcc, _⟩ := hT.tx.ci.at hpc
  obtain ⟨k0, k1, k2, k3⟩ := hcc _ hpc
  rw [hbc] at e2
  obtain ⟨bd, od, hbd, hcd, _⟩ := hT.did.at (k := R.dids.getD d 0) (by simp [nats]; exact hk)
  have cpc := hcd _ (by simp [nats]; exact hk)
  rw [hbd] at e3
  have epc : (nats (R.tasks[m]).crs.did).getD (R.dids.getD d 0) 0 = ((R.tasks[m]).crs.did.getD (R.dids.getD d 0) 0 : Nat) := by
    simp only [nats, List.getD, List.getElem?_map]
    rcases (R.tasks[m]).crs.did[(R.dids[d]?).getD 0]? <;> rfl
  rw [epc] at cpc
  have HR := hide h
  have HGH := hide hgh
  have HGD := hide hgd
  have HGT := hide hg
  rw [hw] at WT
  clear h hgh hgd hg hc hT hcc hcd hbc hbd epc hw h0
  generalize (R.tasks[m]).tx.c.getD ((R.tasks[m]).crs.did.getD (R.dids.getD d 0) 0) Ins.zero = x at *
  obtain ⟨op, xa, xb, xc⟩ := x
  simp only at k0 k1 k2 k3 WT
  generalize (R.tasks[m]).crs.did.getD (R.dids.getD d 0) 0 = pc at *
  generalize R.dids.getD d 0 = k at *
  generalize (R.tasks[m]).crs.did.length = L at *
  generalize (R.tasks[m]).tx.c.length = cl at *
  generalize (R.tasks[m]).h.c.c = ccap at *
  generalize (R.tasks[m]).didS.c = dcap at *
  have hk' : (k : Int) < (L : Int) := by omega
  have hpc' : (pc : Int) < (cl : Int) := by omega
  have hn0 : ((m : Int) + 1 == 0) = false := by rw [beq_eq_false_iff_ne]; omega
  have hwm : IntKind.i64.wrap (m : Int) = (m : Int) := by rw [IntKind.wrap_i64]; omega
  have KL : Hid (∀ w', Below w.heap.size w w' → (w'.cell? ⟨R.b, 3, none⟩ = some (.slice (some ⟨g, 0, none⟩) R.tasks.length R.tkS.c) ∧ w'.cell? ⟨g, m * 10 + 2, none⟩ = some (.slice (some ⟨bc, oc, none⟩) cl ccap) ∧ w'.cell? ⟨R.b, 8, none⟩ = some (.slice (some ⟨gd, 0, none⟩) R.doers R.diS.c) ∧ w'.cell? ⟨gd, d, none⟩ = some (.int .i64 k) ∧ w'.cell? ⟨bd, od + k, none⟩ = some (.int .i64 pc) ∧ w'.cell? ⟨bc, oc + pc * 4, none⟩ = some (.int .i64 op) ∧ w'.cell? ⟨bc, oc + pc * 4 + 1, none⟩ = some (.int .i64 xa) ∧ w'.cell? ⟨bc, oc + pc * 4 + 2, none⟩ = some (.int .i64 xb) ∧ w'.cell? ⟨bc, oc + pc * 4 + 3, none⟩ = some (.int .i64 xc))) := hide (fun w' hB => ⟨cell_below hB (Nat.le_refl _) c3, cell_below hB (Nat.le_refl _) e2, cell_below hB (Nat.le_refl _) c8, cell_below hB (Nat.le_refl _) cd, cell_below hB (Nat.le_refl _) cpc, cell_below hB (Nat.le_refl _) k0, cell_below hB (Nat.le_refl _) k1, cell_below hB (Nat.le_refl _) k2, cell_below hB (Nat.le_refl _) k3⟩)
  go_enter Tryz.func80, Tryz.ntmps80
  go_wp2
  refine wp_region_L (L := #[true, true, true, true, true, true, true, true, true, true, true, true, true, true, true, true, true, true, true, true, true, true, true, true, true, true]) (S := fun w' => w'.cell? ⟨R.b, 3, none⟩ = some (.slice (some ⟨g, 0, none⟩) R.tasks.length R.tkS.c) ∧ w'.cell? ⟨g, m * 10 + 2, none⟩ = some (.slice (some ⟨bc, oc, none⟩) cl ccap) ∧ w'.cell? ⟨R.b, 8, none⟩ = some (.slice (some ⟨gd, 0, none⟩) R.doers R.diS.c) ∧ w'.cell? ⟨gd, d, none⟩ = some (.int .i64 k) ∧ w'.cell? ⟨bd, od + k, none⟩ = some (.int .i64 pc) ∧ w'.cell? ⟨bc, oc + pc * 4, none⟩ = some (.int .i64 op) ∧ w'.cell? ⟨bc, oc + pc * 4 + 1, none⟩ = some (.int .i64 xa) ∧ w'.cell? ⟨bc, oc + pc * 4 + 2, none⟩ = some (.int .i64 xb) ∧ w'.cell? ⟨bc, oc + pc * 4 + 3, none⟩ = some (.int .i64 xc)) (by kernel_rfl) ?_
  have D0 : Hid (Below w.heap.size w w.drew) := hide (Below.refl _ _).drew
  have hHeld := KL.out w.drew D0.out
  clear c3 c8 cd cpc k0 k1 k2 k3 e2 e3 c7 ch
  refine wpL_take (i := 0) (v := ?_) rfl (by kernel_rfl) (by kernel_rfl) (by kernel_rfl) (by kernel_rfl) (fun _ _ _ h => h) (by rfl) ?_ (by assumption) ?_
  rotate_left
  · intro w hSw; (try dsimp only at hSw); (go_simp <;> with_reducible rfl)
  try simp only [List.getElem_toArray, List.getElem_cons_zero, Act.put, List.setIfInBounds_toArray, List.set_cons_zero, List.set_cons_succ]
  refine wpL_take (i := 1) (v := ?_) rfl (by kernel_rfl) (by kernel_rfl) (by kernel_rfl) (by kernel_rfl) (fun _ _ _ h => h) (by rfl) ?_ (by assumption) ?_
  rotate_left
  · intro w hSw; (try dsimp only at hSw); (go_simp <;> with_reducible rfl)
  try simp only [List.getElem_toArray, List.getElem_cons_zero, List.getElem_cons_succ, Act.put, List.setIfInBounds_toArray, List.set_cons_zero, List.set_cons_succ]
  refine wpL_take (i := 2) (v := ?_) rfl (by kernel_rfl) (by kernel_rfl) (by kernel_rfl) (by kernel_rfl) (fun _ _ _ h => h) (by rfl) ?_ (by assumption) ?_
  rotate_left
  · intro w hSw; (try dsimp only at hSw); (go_simp <;> with_reducible rfl)
  try simp only [List.getElem_toArray, List.getElem_cons_zero, List.getElem_cons_succ, Act.put, List.setIfInBounds_toArray, List.set_cons_zero, List.set_cons_succ]
  refine wpL_take (i := 3) (v := ?_) rfl (by kernel_rfl) (by kernel_rfl) (by kernel_rfl) (by kernel_rfl) (fun _ _ _ h => h) (by rfl) ?_ (by assumption) ?_
  rotate_left
  · intro w hSw; (try dsimp only at hSw); (go_simp <;> with_reducible rfl)
  try simp only [List.getElem_toArray, List.getElem_cons_zero, List.getElem_cons_succ, Act.put, List.setIfInBounds_toArray, List.set_cons_zero, List.set_cons_succ]
  refine wpL_take (i := 4) (v := ?_) rfl (by kernel_rfl) (by kernel_rfl) (by kernel_rfl) (by kernel_rfl) (fun _ _ _ h => h) (by rfl) ?_ (by assumption) ?_
  rotate_left
  · intro w hSw; (try dsimp only at hSw); (go_simp <;> with_reducible rfl)
  try simp only [List.getElem_toArray, List.getElem_cons_zero, List.getElem_cons_succ, Act.put, List.setIfInBounds_toArray, List.set_cons_zero, List.set_cons_succ]
  refine wpL_take (i := 5) (v := ?_) rfl (by kernel_rfl) (by kernel_rfl) (by kernel_rfl) (by kernel_rfl) (fun _ _ _ h => h) (by rfl) ?_ (by assumption) ?_
  rotate_left
  · intro w hSw; (try dsimp only at hSw); (go_simp <;> with_reducible rfl)
  try simp only [List.getElem_toArray, List.getElem_cons_zero, List.getElem_cons_succ, Act.put, List.setIfInBounds_toArray, List.set_cons_zero, List.set_cons_succ]
  refine wpL_take (i := 6) (v := ?_) rfl (by kernel_rfl) (by kernel_rfl) (by kernel_rfl) (by kernel_rfl) (fun _ _ _ h => h) (by rfl) ?_ (by assumption) ?_
  rotate_left
  · intro w hSw; (try dsimp only at hSw); (go_simp <;> with_reducible rfl)
  try simp only [List.getElem_toArray, List.getElem_cons_zero, List.getElem_cons_succ, Act.put, List.setIfInBounds_toArray, List.set_cons_zero, List.set_cons_succ]
  refine wpL_take (i := 7) (v := ?_) rfl (by kernel_rfl) (by kernel_rfl) (by kernel_rfl) (by kernel_rfl) (fun _ _ _ h => h) (by rfl) ?_ (by assumption) ?_
  rotate_left
  · intro w hSw; (try dsimp only at hSw); (go_simp <;> with_reducible rfl)
  try simp only [List.getElem_toArray, List.getElem_cons_zero, List.getElem_cons_succ, Act.put, List.setIfInBounds_toArray, List.set_cons_zero, List.set_cons_succ]
  refine wpL_take (i := 8) (v := ?_) rfl (by kernel_rfl) (by kernel_rfl) (by kernel_rfl) (by kernel_rfl) (fun _ _ _ h => h) (by rfl) ?_ (by assumption) ?_
  rotate_left
  · intro w hSw; (try dsimp only at hSw); (go_simp <;> with_reducible rfl)
  try simp only [List.getElem_toArray, List.getElem_cons_zero, List.getElem_cons_succ, Act.put, List.setIfInBounds_toArray, List.set_cons_zero, List.set_cons_succ]
  refine wpL_take (i := 9) (v := ?_) rfl (by kernel_rfl) (by kernel_rfl) (by kernel_rfl) (by kernel_rfl) (fun _ _ _ h => h) (by rfl) ?_ (by assumption) ?_
  rotate_left
  · intro w hSw; (try dsimp only at hSw); (go_simp <;> with_reducible rfl)
  try simp only [List.getElem_toArray, List.getElem_cons_zero, List.getElem_cons_succ, Act.put, List.setIfInBounds_toArray, List.set_cons_zero, List.set_cons_succ]
  refine wpL_take (i := 10) (v := ?_) rfl (by kernel_rfl) (by kernel_rfl) (by kernel_rfl) (by kernel_rfl) (fun _ _ _ h => h) (by rfl) ?_ (by assumption) ?_
  rotate_left
  · intro w hSw; (try dsimp only at hSw); (go_simp <;> with_reducible rfl)
  try simp only [List.getElem_toArray, List.getElem_cons_zero, List.getElem_cons_succ, Act.put, List.setIfInBounds_toArray, List.set_cons_zero, List.set_cons_succ]
  refine wpL_take (i := 11) (v := ?_) rfl (by kernel_rfl) (by kernel_rfl) (by kernel_rfl) (by kernel_rfl) (fun _ _ _ h => h) (by rfl) ?_ (by assumption) ?_
  rotate_left
  · intro w hSw; (try dsimp only at hSw); (go_simp <;> with_reducible rfl)
  try simp only [List.getElem_toArray, List.getElem_cons_zero, List.getElem_cons_succ, Act.put, List.setIfInBounds_toArray, List.set_cons_zero, List.set_cons_succ]
  refine wpL_take (i := 12) (v := ?_) rfl (by kernel_rfl) (by kernel_rfl) (by kernel_rfl) (by kernel_rfl) (fun _ _ _ h => h) (by rfl) ?_ (by assumption) ?_
  rotate_left
  · intro w hSw; (try dsimp only at hSw); (go_simp <;> with_reducible rfl)
  try simp only [List.getElem_toArray, List.getElem_cons_zero, List.getElem_cons_succ, Act.put, List.setIfInBounds_toArray, List.set_cons_zero, List.set_cons_succ]
  refine wpL_take (i := 13) (v := ?_) rfl (by kernel_rfl) (by kernel_rfl) (by kernel_rfl) (by kernel_rfl) (fun _ _ _ h => h) (by rfl) ?_ (by assumption) ?_
  rotate_left
  · intro w hSw; (try dsimp only at hSw); (go_simp <;> with_reducible rfl)
  try simp only [List.getElem_toArray, List.getElem_cons_zero, List.getElem_cons_succ, Act.put, List.setIfInBounds_toArray, List.set_cons_zero, List.set_cons_succ]
  refine wpL_take (i := 14) (v := ?_) rfl (by kernel_rfl) (by kernel_rfl) (by kernel_rfl) (by kernel_rfl) (fun _ _ _ h => h) (by rfl) ?_ (by assumption) ?_
  rotate_left
  · intro w hSw; (try dsimp only at hSw); (go_simp <;> with_reducible rfl)
  try simp only [List.getElem_toArray, List.getElem_cons_zero, List.getElem_cons_succ, Act.put, List.setIfInBounds_toArray, List.set_cons_zero, List.set_cons_succ]
  refine wpL_take (i := 15) (v := ?_) rfl (by kernel_rfl) (by kernel_rfl) (by kernel_rfl) (by kernel_rfl) (fun _ _ _ h => h) (by rfl) ?_ (by assumption) ?_
  rotate_left
  · intro w hSw; (try dsimp only at hSw); (go_simp <;> with_reducible rfl)
  try simp only [List.getElem_toArray, List.getElem_cons_zero, List.getElem_cons_succ, Act.put, List.setIfInBounds_toArray, List.set_cons_zero, List.set_cons_succ]
  refine wpL_take (i := 16) (v := ?_) rfl (by kernel_rfl) (by kernel_rfl) (by kernel_rfl) (by kernel_rfl) (fun _ _ _ h => h) (by rfl) ?_ (by assumption) ?_
  rotate_left
  · intro w hSw; (try dsimp only at hSw); (go_simp <;> with_reducible rfl)
  try simp only [List.getElem_toArray, List.getElem_cons_zero, List.getElem_cons_succ, Act.put, List.setIfInBounds_toArray, List.set_cons_zero, List.set_cons_succ]
  refine wpL_take (i := 17) (v := ?_) rfl (by kernel_rfl) (by kernel_rfl) (by kernel_rfl) (by kernel_rfl) (fun _ _ _ h => h) (by rfl) ?_ (by assumption) ?_
  rotate_left
  · intro w hSw; (try dsimp only at hSw); (go_simp <;> with_reducible rfl)
  try simp only [List.getElem_toArray, List.getElem_cons_zero, List.getElem_cons_succ, Act.put, List.setIfInBounds_toArray, List.set_cons_zero, List.set_cons_succ]
  refine wpL_take (i := 18) (v := ?_) rfl (by kernel_rfl) (by kernel_rfl) (by kernel_rfl) (by kernel_rfl) (fun _ _ _ h => h) (by rfl) ?_ (by assumption) ?_
  rotate_left
  · intro w hSw; (try dsimp only at hSw); (go_simp <;> with_reducible rfl)
  try simp only [List.getElem_toArray, List.getElem_cons_zero, List.getElem_cons_succ, Act.put, List.setIfInBounds_toArray, List.set_cons_zero, List.set_cons_succ]
  refine wpL_take (i := 19) (v := ?_) rfl (by kernel_rfl) (by kernel_rfl) (by kernel_rfl) (by kernel_rfl) (fun _ _ _ h => h) (by rfl) ?_ (by assumption) ?_
  rotate_left
  · intro w hSw; (try dsimp only at hSw); (go_simp <;> with_reducible rfl)
  try simp only [List.getElem_toArray, List.getElem_cons_zero, List.getElem_cons_succ, Act.put, List.setIfInBounds_toArray, List.set_cons_zero, List.set_cons_succ]
  refine wpL_take (i := 20) (v := ?_) rfl (by kernel_rfl) (by kernel_rfl) (by kernel_rfl) (by kernel_rfl) (fun _ _ _ h => h) (by rfl) ?_ (by assumption) ?_
  rotate_left
  · intro w hSw; (try dsimp only at hSw); (go_simp <;> with_reducible rfl)
  try simp only [List.getElem_toArray, List.getElem_cons_zero, List.getElem_cons_succ, Act.put, List.setIfInBounds_toArray, List.set_cons_zero, List.set_cons_succ]
  refine wpL_take (i := 21) (v := ?_) rfl (by kernel_rfl) (by kernel_rfl) (by kernel_rfl) (by kernel_rfl) (fun _ _ _ h => h) (by rfl) ?_ (by assumption) ?_
  rotate_left
  · intro w hSw; (try dsimp only at hSw); (go_simp <;> with_reducible rfl)
  try simp only [List.getElem_toArray, List.getElem_cons_zero, List.getElem_cons_succ, Act.put, List.setIfInBounds_toArray, List.set_cons_zero, List.set_cons_succ]
  refine wpL_take (i := 22) (v := ?_) rfl (by kernel_rfl) (by kernel_rfl) (by kernel_rfl) (by kernel_rfl) (fun _ _ _ h => h) (by rfl) ?_ (by assumption) ?_
  rotate_left
  · intro w hSw; (try dsimp only at hSw); (go_simp <;> with_reducible rfl)
  try simp only [List.getElem_toArray, List.getElem_cons_zero, List.getElem_cons_succ, Act.put, List.setIfInBounds_toArray, List.set_cons_zero, List.set_cons_succ]
  refine wpL_take (i := 23) (v := ?_) rfl (by kernel_rfl) (by kernel_rfl) (by kernel_rfl) (by kernel_rfl) (fun _ _ _ h => h) (by rfl) ?_ (by assumption) ?_
  rotate_left
  · intro w hSw; (try dsimp only at hSw); (go_simp <;> with_reducible rfl)
  try simp only [List.getElem_toArray, List.getElem_cons_zero, List.getElem_cons_succ, Act.put, List.setIfInBounds_toArray, List.set_cons_zero, List.set_cons_succ]
  refine wpL_one (n := 24) (by kernel_rfl) rfl (by rfl) (fun K hK => ?_)
  clear hHeld
  simp only [List.getElem_toArray, List.getElem_cons_zero, List.getElem_cons_succ]
  go_simp
  refine (WT.out _ D0.out).mono ?_
  rintro e w5 ⟨rfl, hb5⟩
  have B5 := hide (below_on D0.out hb5)
  have hHeld := KL.out w5 B5.out
  refine hK.out _ _ hHeld ?_
  clear hK K hb5 WT
  try simp only [List.getElem_toArray, List.getElem_cons_zero, List.getElem_cons_succ, Act.put, List.setIfInBounds_toArray, List.set_cons_zero, List.set_cons_succ]
  refine wpL_take (i := 25) (v := ?_) rfl (by kernel_rfl) (by kernel_rfl) (by kernel_rfl) (by kernel_rfl) (fun _ _ _ h => h) (by rfl) ?_ (by assumption) ?_
  rotate_left
  · intro w hSw; (try dsimp only at hSw); (go_simp <;> with_reducible rfl)
  try simp only [List.getElem_toArray, List.getElem_cons_zero, List.getElem_cons_succ, Act.put, List.setIfInBounds_toArray, List.set_cons_zero, List.set_cons_succ]
  refine wpL_leaf _ (by kernel_rfl) ?_
  refine wpAny_none _ (by kernel_rfl) ?_
  clear hHeld
  go_wp2
  go_ret
  exact ⟨rfl, B5.out⟩

set_option maxHeartbeats 4000000 in
set_option maxRecDepth 100000 in
theorem rdoer_go (R : RM) (w : World) (h : RefAt w R) (d m : Nat) (hd : d < R.doers) (h0 : R.hand.getD d 0 = m + 1) (hm : m < R.tasks.length) (hk : R.dids.getD d 0 < (R.tasks[m]).crs.did.length) (hpc : (R.tasks[m]).crs.did.getD (R.dids.getD d 0) 0 < (R.tasks[m]).tx.c.length)
    (hw : R.waitN m ((R.tasks[m]).tx.c.getD ((R.tasks[m]).crs.did.getD (R.dids.getD d 0) 0) Ins.zero) = false) (hk30 : R.dids.getD d 0 ≤ 30) :
    Calls Tryz.prog 80 #[.pointer (some ⟨R.b, 0, none⟩), .int .i64 d] w fun e w' => ∃ R', e = .returned (.bool true) ∧ RefAt w' R' ∧ Chg w w' (fun k => k ∈ R.mut) ∧ R'.foot = R.foot ∧ R'.b = R.b ∧
      (R.dids.getD d 0 + 1 = (R.tasks[m]).crs.did.length → R' = (R.withDid d (R.dids.getD d 0 + 1)).freed d m) ∧ (¬ R.dids.getD d 0 + 1 = (R.tasks[m]).crs.did.length → R' = R.withDid d (R.dids.getD d 0 + 1)) := by
  obtain ⟨gh, hgh, ch⟩ := h.handCell hd
  obtain ⟨gd, hgd, cd⟩ := h.didCell hd
  obtain ⟨g, hg, hgl, hc⟩ := h.task hm
  have hT := h.tsk _ (List.getElem_mem hm)
  have c7 := h.row.cell' (i := 7) (v := .slice R.haS.a R.haS.n R.haS.c) rfl
  have c3 := h.row.cell' (i := 3) (v := .slice R.tkS.a R.tkS.n R.tkS.c) rfl
  have c8 := h.row.cell' (i := 8) (v := .slice R.diS.a R.diS.n R.diS.c) rfl
  rw [h.han, h.hal, hgh] at c7
  rw [h.din, h.dil, hgd] at c8
  rw [h.tkn, hg] at c3
  rw [h0] at ch
  have WT := hide (fun wx (hb : Below w.heap.size w wx) => rwaits_any R wx (h.below hb) m hm ((R.tasks[m]).tx.c.getD ((R.tasks[m]).crs.did.getD (R.dids.getD d 0) 0) Ins.zero) ((checkN_sound _ hT.chk).2.2.2.2.2 _ (by rw [List.getD, List.getElem?_eq_getElem hpc]; simp)))
  have d6 := h.doers6
  have ht := h.txns
  have hd' : (d : Int) < (R.doers : Int) := by omega
  have hm' : (m : Int) < (R.tasks.length : Int) := by omega
  have e2 := hc 2 (.slice (R.tasks[m]).h.c.a (R.tasks[m]).h.c.n (R.tasks[m]).h.c.c) rfl
  have e3 := hc 3 (.slice (R.tasks[m]).didS.a (R.tasks[m]).didS.n (R.tasks[m]).didS.c) rfl
  rw [hT.tx.cl] at e2
  rw [hT.didn] at e3
  obtain ⟨bc, oc, hbc, hcc, _⟩ := hT.tx.ci.at hpc
  obtain ⟨k0, k1, k2, k3⟩ := hcc _ hpc
  rw [hbc] at e2
  obtain ⟨bd, od, hbd, hcd, _⟩ := hT.did.at (k := R.dids.getD d 0) (by simp [nats]; exact hk)
  have cpc := hcd _ (by simp [nats]; exact hk)
  rw [hbd] at e3
  have epc : (nats (R.tasks[m]).crs.did).getD (R.dids.getD d 0) 0 = ((R.tasks[m]).crs.did.getD (R.dids.getD d 0) 0 : Nat) := by
    simp only [nats, List.getD, List.getElem?_map]
    rcases (R.tasks[m]).crs.did[(R.dids[d]?).getD 0]? <;> rfl
  rw [epc] at cpc
  have HR := hide h
  have HGH := hide hgh
  have HGD := hide hgd
  have HGT := hide hg
  have HTD := hide (fun (wx : World) (hr : RefAt wx (R.withDid d (R.dids.getD d 0 + 1))) => (show wx.cell? ⟨g, m * 10 + 3, none⟩ = some (.slice (some ⟨bd, od, none⟩) (R.tasks[m]).crs.did.length (R.tasks[m]).didS.c) from by
    obtain ⟨g2, hg2, _, hc2⟩ := hr.task (i := m) (by exact hm)
    obtain rfl : g2 = g := by rw [show (R.withDid d (R.dids.getD d 0 + 1)).tkS = R.tkS from rfl, hg] at hg2; simpa using hg2.symm
    have := hc2 3 (.slice (R.tasks[m]).didS.a (R.tasks[m]).didS.n (R.tasks[m]).didS.c) rfl
    rw [hT.didn, hbd] at this; exact this))
  rw [hw] at WT
  clear h hgh hgd hg hc hT hcc hcd hbc hbd epc hw h0
  generalize (R.tasks[m]).tx.c.getD ((R.tasks[m]).crs.did.getD (R.dids.getD d 0) 0) Ins.zero = x at *
  obtain ⟨op, xa, xb, xc⟩ := x
  simp only at k0 k1 k2 k3 WT
  generalize (R.tasks[m]).crs.did.getD (R.dids.getD d 0) 0 = pc at *
  generalize R.dids.getD d 0 = k at *
  generalize (R.tasks[m]).crs.did.length = L at *
  generalize (R.tasks[m]).tx.c.length = cl at *
  generalize (R.tasks[m]).h.c.c = ccap at *
  generalize (R.tasks[m]).didS.c = dcap at *
  have hk' : (k : Int) < (L : Int) := by omega
  have hpc' : (pc : Int) < (cl : Int) := by omega
  have hn0 : ((m : Int) + 1 == 0) = false := by rw [beq_eq_false_iff_ne]; omega
  have hwm : IntKind.i64.wrap (m : Int) = (m : Int) := by rw [IntKind.wrap_i64]; omega
  have KL : Hid (∀ w', Below w.heap.size w w' → (w'.cell? ⟨R.b, 3, none⟩ = some (.slice (some ⟨g, 0, none⟩) R.tasks.length R.tkS.c) ∧ w'.cell? ⟨g, m * 10 + 2, none⟩ = some (.slice (some ⟨bc, oc, none⟩) cl ccap) ∧ w'.cell? ⟨R.b, 8, none⟩ = some (.slice (some ⟨gd, 0, none⟩) R.doers R.diS.c) ∧ w'.cell? ⟨gd, d, none⟩ = some (.int .i64 k) ∧ w'.cell? ⟨bd, od + k, none⟩ = some (.int .i64 pc) ∧ w'.cell? ⟨bc, oc + pc * 4, none⟩ = some (.int .i64 op) ∧ w'.cell? ⟨bc, oc + pc * 4 + 1, none⟩ = some (.int .i64 xa) ∧ w'.cell? ⟨bc, oc + pc * 4 + 2, none⟩ = some (.int .i64 xb) ∧ w'.cell? ⟨bc, oc + pc * 4 + 3, none⟩ = some (.int .i64 xc))) := hide (fun w' hB => ⟨cell_below hB (Nat.le_refl _) c3, cell_below hB (Nat.le_refl _) e2, cell_below hB (Nat.le_refl _) c8, cell_below hB (Nat.le_refl _) cd, cell_below hB (Nat.le_refl _) cpc, cell_below hB (Nat.le_refl _) k0, cell_below hB (Nat.le_refl _) k1, cell_below hB (Nat.le_refl _) k2, cell_below hB (Nat.le_refl _) k3⟩)
  go_enter Tryz.func80, Tryz.ntmps80
  go_wp2
  refine wp_region_L (L := #[true, true, true, true, true, true, true, true, true, true, true, true, true, true, true, true, true, true, true, true, true, true, true, true, true, true]) (S := fun w' => w'.cell? ⟨R.b, 3, none⟩ = some (.slice (some ⟨g, 0, none⟩) R.tasks.length R.tkS.c) ∧ w'.cell? ⟨g, m * 10 + 2, none⟩ = some (.slice (some ⟨bc, oc, none⟩) cl ccap) ∧ w'.cell? ⟨R.b, 8, none⟩ = some (.slice (some ⟨gd, 0, none⟩) R.doers R.diS.c) ∧ w'.cell? ⟨gd, d, none⟩ = some (.int .i64 k) ∧ w'.cell? ⟨bd, od + k, none⟩ = some (.int .i64 pc) ∧ w'.cell? ⟨bc, oc + pc * 4, none⟩ = some (.int .i64 op) ∧ w'.cell? ⟨bc, oc + pc * 4 + 1, none⟩ = some (.int .i64 xa) ∧ w'.cell? ⟨bc, oc + pc * 4 + 2, none⟩ = some (.int .i64 xb) ∧ w'.cell? ⟨bc, oc + pc * 4 + 3, none⟩ = some (.int .i64 xc)) (by kernel_rfl) ?_
  have D0 : Hid (Below w.heap.size w w.drew) := hide (Below.refl _ _).drew
  have hHeld := KL.out w.drew D0.out
  clear c3 c8 cd cpc k0 k1 k2 k3 e2 e3 c7 ch
  refine wpL_take (i := 0) (v := ?_) rfl (by kernel_rfl) (by kernel_rfl) (by kernel_rfl) (by kernel_rfl) (fun _ _ _ h => h) (by rfl) ?_ (by assumption) ?_
  rotate_left
  · intro w hSw; (try dsimp only at hSw); (go_simp <;> with_reducible rfl)
  try simp only [List.getElem_toArray, List.getElem_cons_zero, Act.put, List.setIfInBounds_toArray, List.set_cons_zero, List.set_cons_succ]
  refine wpL_take (i := 1) (v := ?_) rfl (by kernel_rfl) (by kernel_rfl) (by kernel_rfl) (by kernel_rfl) (fun _ _ _ h => h) (by rfl) ?_ (by assumption) ?_
  rotate_left
  · intro w hSw; (try dsimp only at hSw); (go_simp <;> with_reducible rfl)
  try simp only [List.getElem_toArray, List.getElem_cons_zero, List.getElem_cons_succ, Act.put, List.setIfInBounds_toArray, List.set_cons_zero, List.set_cons_succ]
  refine wpL_take (i := 2) (v := ?_) rfl (by kernel_rfl) (by kernel_rfl) (by kernel_rfl) (by kernel_rfl) (fun _ _ _ h => h) (by rfl) ?_ (by assumption) ?_
  rotate_left
  · intro w hSw; (try dsimp only at hSw); (go_simp <;> with_reducible rfl)
  try simp only [List.getElem_toArray, List.getElem_cons_zero, List.getElem_cons_succ, Act.put, List.setIfInBounds_toArray, List.set_cons_zero, List.set_cons_succ]
  refine wpL_take (i := 3) (v := ?_) rfl (by kernel_rfl) (by kernel_rfl) (by kernel_rfl) (by kernel_rfl) (fun _ _ _ h => h) (by rfl) ?_ (by assumption) ?_
  rotate_left
  · intro w hSw; (try dsimp only at hSw); (go_simp <;> with_reducible rfl)
  try simp only [List.getElem_toArray, List.getElem_cons_zero, List.getElem_cons_succ, Act.put, List.setIfInBounds_toArray, List.set_cons_zero, List.set_cons_succ]
  refine wpL_take (i := 4) (v := ?_) rfl (by kernel_rfl) (by kernel_rfl) (by kernel_rfl) (by kernel_rfl) (fun _ _ _ h => h) (by rfl) ?_ (by assumption) ?_
  rotate_left
  · intro w hSw; (try dsimp only at hSw); (go_simp <;> with_reducible rfl)
  try simp only [List.getElem_toArray, List.getElem_cons_zero, List.getElem_cons_succ, Act.put, List.setIfInBounds_toArray, List.set_cons_zero, List.set_cons_succ]
  refine wpL_take (i := 5) (v := ?_) rfl (by kernel_rfl) (by kernel_rfl) (by kernel_rfl) (by kernel_rfl) (fun _ _ _ h => h) (by rfl) ?_ (by assumption) ?_
  rotate_left
  · intro w hSw; (try dsimp only at hSw); (go_simp <;> with_reducible rfl)
  try simp only [List.getElem_toArray, List.getElem_cons_zero, List.getElem_cons_succ, Act.put, List.setIfInBounds_toArray, List.set_cons_zero, List.set_cons_succ]
  refine wpL_take (i := 6) (v := ?_) rfl (by kernel_rfl) (by kernel_rfl) (by kernel_rfl) (by kernel_rfl) (fun _ _ _ h => h) (by rfl) ?_ (by assumption) ?_
  rotate_left
  · intro w hSw; (try dsimp only at hSw); (go_simp <;> with_reducible rfl)
  try simp only [List.getElem_toArray, List.getElem_cons_zero, List.getElem_cons_succ, Act.put, List.setIfInBounds_toArray, List.set_cons_zero, List.set_cons_succ]
  refine wpL_take (i := 7) (v := ?_) rfl (by kernel_rfl) (by kernel_rfl) (by kernel_rfl) (by kernel_rfl) (fun _ _ _ h => h) (by rfl) ?_ (by assumption) ?_
  rotate_left
  · intro w hSw; (try dsimp only at hSw); (go_simp <;> with_reducible rfl)
  try simp only [List.getElem_toArray, List.getElem_cons_zero, List.getElem_cons_succ, Act.put, List.setIfInBounds_toArray, List.set_cons_zero, List.set_cons_succ]
  refine wpL_take (i := 8) (v := ?_) rfl (by kernel_rfl) (by kernel_rfl) (by kernel_rfl) (by kernel_rfl) (fun _ _ _ h => h) (by rfl) ?_ (by assumption) ?_
  rotate_left
  · intro w hSw; (try dsimp only at hSw); (go_simp <;> with_reducible rfl)
  try simp only [List.getElem_toArray, List.getElem_cons_zero, List.getElem_cons_succ, Act.put, List.setIfInBounds_toArray, List.set_cons_zero, List.set_cons_succ]
  refine wpL_take (i := 9) (v := ?_) rfl (by kernel_rfl) (by kernel_rfl) (by kernel_rfl) (by kernel_rfl) (fun _ _ _ h => h) (by rfl) ?_ (by assumption) ?_
  rotate_left
  · intro w hSw; (try dsimp only at hSw); (go_simp <;> with_reducible rfl)
  try simp only [List.getElem_toArray, List.getElem_cons_zero, List.getElem_cons_succ, Act.put, List.setIfInBounds_toArray, List.set_cons_zero, List.set_cons_succ]
  refine wpL_take (i := 10) (v := ?_) rfl (by kernel_rfl) (by kernel_rfl) (by kernel_rfl) (by kernel_rfl) (fun _ _ _ h => h) (by rfl) ?_ (by assumption) ?_
  rotate_left
  · intro w hSw; (try dsimp only at hSw); (go_simp <;> with_reducible rfl)
  try simp only [List.getElem_toArray, List.getElem_cons_zero, List.getElem_cons_succ, Act.put, List.setIfInBounds_toArray, List.set_cons_zero, List.set_cons_succ]
  refine wpL_take (i := 11) (v := ?_) rfl (by kernel_rfl) (by kernel_rfl) (by kernel_rfl) (by kernel_rfl) (fun _ _ _ h => h) (by rfl) ?_ (by assumption) ?_
  rotate_left
  · intro w hSw; (try dsimp only at hSw); (go_simp <;> with_reducible rfl)
  try simp only [List.getElem_toArray, List.getElem_cons_zero, List.getElem_cons_succ, Act.put, List.setIfInBounds_toArray, List.set_cons_zero, List.set_cons_succ]
  refine wpL_take (i := 12) (v := ?_) rfl (by kernel_rfl) (by kernel_rfl) (by kernel_rfl) (by kernel_rfl) (fun _ _ _ h => h) (by rfl) ?_ (by assumption) ?_
  rotate_left
  · intro w hSw; (try dsimp only at hSw); (go_simp <;> with_reducible rfl)
  try simp only [List.getElem_toArray, List.getElem_cons_zero, List.getElem_cons_succ, Act.put, List.setIfInBounds_toArray, List.set_cons_zero, List.set_cons_succ]
  refine wpL_take (i := 13) (v := ?_) rfl (by kernel_rfl) (by kernel_rfl) (by kernel_rfl) (by kernel_rfl) (fun _ _ _ h => h) (by rfl) ?_ (by assumption) ?_
  rotate_left
  · intro w hSw; (try dsimp only at hSw); (go_simp <;> with_reducible rfl)
  try simp only [List.getElem_toArray, List.getElem_cons_zero, List.getElem_cons_succ, Act.put, List.setIfInBounds_toArray, List.set_cons_zero, List.set_cons_succ]
  refine wpL_take (i := 14) (v := ?_) rfl (by kernel_rfl) (by kernel_rfl) (by kernel_rfl) (by kernel_rfl) (fun _ _ _ h => h) (by rfl) ?_ (by assumption) ?_
  rotate_left
  · intro w hSw; (try dsimp only at hSw); (go_simp <;> with_reducible rfl)
  try simp only [List.getElem_toArray, List.getElem_cons_zero, List.getElem_cons_succ, Act.put, List.setIfInBounds_toArray, List.set_cons_zero, List.set_cons_succ]
  refine wpL_take (i := 15) (v := ?_) rfl (by kernel_rfl) (by kernel_rfl) (by kernel_rfl) (by kernel_rfl) (fun _ _ _ h => h) (by rfl) ?_ (by assumption) ?_
  rotate_left
  · intro w hSw; (try dsimp only at hSw); (go_simp <;> with_reducible rfl)
  try simp only [List.getElem_toArray, List.getElem_cons_zero, List.getElem_cons_succ, Act.put, List.setIfInBounds_toArray, List.set_cons_zero, List.set_cons_succ]
  refine wpL_take (i := 16) (v := ?_) rfl (by kernel_rfl) (by kernel_rfl) (by kernel_rfl) (by kernel_rfl) (fun _ _ _ h => h) (by rfl) ?_ (by assumption) ?_
  rotate_left
  · intro w hSw; (try dsimp only at hSw); (go_simp <;> with_reducible rfl)
  try simp only [List.getElem_toArray, List.getElem_cons_zero, List.getElem_cons_succ, Act.put, List.setIfInBounds_toArray, List.set_cons_zero, List.set_cons_succ]
  refine wpL_take (i := 17) (v := ?_) rfl (by kernel_rfl) (by kernel_rfl) (by kernel_rfl) (by kernel_rfl) (fun _ _ _ h => h) (by rfl) ?_ (by assumption) ?_
  rotate_left
  · intro w hSw; (try dsimp only at hSw); (go_simp <;> with_reducible rfl)
  try simp only [List.getElem_toArray, List.getElem_cons_zero, List.getElem_cons_succ, Act.put, List.setIfInBounds_toArray, List.set_cons_zero, List.set_cons_succ]
  refine wpL_take (i := 18) (v := ?_) rfl (by kernel_rfl) (by kernel_rfl) (by kernel_rfl) (by kernel_rfl) (fun _ _ _ h => h) (by rfl) ?_ (by assumption) ?_
  rotate_left
  · intro w hSw; (try dsimp only at hSw); (go_simp <;> with_reducible rfl)
  try simp only [List.getElem_toArray, List.getElem_cons_zero, List.getElem_cons_succ, Act.put, List.setIfInBounds_toArray, List.set_cons_zero, List.set_cons_succ]
  refine wpL_take (i := 19) (v := ?_) rfl (by kernel_rfl) (by kernel_rfl) (by kernel_rfl) (by kernel_rfl) (fun _ _ _ h => h) (by rfl) ?_ (by assumption) ?_
  rotate_left
  · intro w hSw; (try dsimp only at hSw); (go_simp <;> with_reducible rfl)
  try simp only [List.getElem_toArray, List.getElem_cons_zero, List.getElem_cons_succ, Act.put, List.setIfInBounds_toArray, List.set_cons_zero, List.set_cons_succ]
  refine wpL_take (i := 20) (v := ?_) rfl (by kernel_rfl) (by kernel_rfl) (by kernel_rfl) (by kernel_rfl) (fun _ _ _ h => h) (by rfl) ?_ (by assumption) ?_
  rotate_left
  · intro w hSw; (try dsimp only at hSw); (go_simp <;> with_reducible rfl)
  try simp only [List.getElem_toArray, List.getElem_cons_zero, List.getElem_cons_succ, Act.put, List.setIfInBounds_toArray, List.set_cons_zero, List.set_cons_succ]
  refine wpL_take (i := 21) (v := ?_) rfl (by kernel_rfl) (by kernel_rfl) (by kernel_rfl) (by kernel_rfl) (fun _ _ _ h => h) (by rfl) ?_ (by assumption) ?_
  rotate_left
  · intro w hSw; (try dsimp only at hSw); (go_simp <;> with_reducible rfl)
  try simp only [List.getElem_toArray, List.getElem_cons_zero, List.getElem_cons_succ, Act.put, List.setIfInBounds_toArray, List.set_cons_zero, List.set_cons_succ]
  refine wpL_take (i := 22) (v := ?_) rfl (by kernel_rfl) (by kernel_rfl) (by kernel_rfl) (by kernel_rfl) (fun _ _ _ h => h) (by rfl) ?_ (by assumption) ?_
  rotate_left
  · intro w hSw; (try dsimp only at hSw); (go_simp <;> with_reducible rfl)
  try simp only [List.getElem_toArray, List.getElem_cons_zero, List.getElem_cons_succ, Act.put, List.setIfInBounds_toArray, List.set_cons_zero, List.set_cons_succ]
  refine wpL_take (i := 23) (v := ?_) rfl (by kernel_rfl) (by kernel_rfl) (by kernel_rfl) (by kernel_rfl) (fun _ _ _ h => h) (by rfl) ?_ (by assumption) ?_
  rotate_left
  · intro w hSw; (try dsimp only at hSw); (go_simp <;> with_reducible rfl)
  try simp only [List.getElem_toArray, List.getElem_cons_zero, List.getElem_cons_succ, Act.put, List.setIfInBounds_toArray, List.set_cons_zero, List.set_cons_succ]
  refine wpL_one (n := 24) (by kernel_rfl) rfl (by rfl) (fun K hK => ?_)
  clear hHeld
  simp only [List.getElem_toArray, List.getElem_cons_zero, List.getElem_cons_succ]
  go_simp
  refine (WT.out _ D0.out).mono ?_
  rintro e w5 ⟨rfl, hb5⟩
  have B5 := hide (below_on D0.out hb5)
  have hHeld := KL.out w5 B5.out
  refine hK.out _ _ hHeld ?_
  clear hK K hb5 WT
  try simp only [List.getElem_toArray, List.getElem_cons_zero, List.getElem_cons_succ, Act.put, List.setIfInBounds_toArray, List.set_cons_zero, List.set_cons_succ]
  refine wpL_take (i := 25) (v := ?_) rfl (by kernel_rfl) (by kernel_rfl) (by kernel_rfl) (by kernel_rfl) (fun _ _ _ h => h) (by rfl) ?_ (by assumption) ?_
  rotate_left
  · intro w hSw; (try dsimp only at hSw); (go_simp <;> with_reducible rfl)
  try simp only [List.getElem_toArray, List.getElem_cons_zero, List.getElem_cons_succ, Act.put, List.setIfInBounds_toArray, List.set_cons_zero, List.set_cons_succ]
  refine wpL_leaf _ (by kernel_rfl) ?_
  refine wpAny_none _ (by kernel_rfl) ?_
  clear hHeld
  have RA5 := hide (HR.out.below B5.out)
  have f8 := (KL.out w5 B5.out).2.2.1
  have fd := (KL.out w5 B5.out).2.2.2.1
  have ff := RA5.out.di.frozen HGD.out d
  obtain ⟨q1, q2⟩ := refAt_withDid RA5.out HGD.out d (k + 1)
  rw [show ((k + 1 : Nat) : Int) = (k : Int) + 1 by omega] at q1 q2
  have RA6 := hide q1
  have CA6 := hide ((Chg.of_below B5.out _).trans q2)
  have hne2 : ¬ R.b = gd := fun e => (RA5.out.parts_of.2.2.1 gd (by simp [Sl.blk, HGD.out])).1 e.symm
  have hkw : IntKind.i64.wrap ((k : Int) + 1) = (k : Int) + 1 := by rw [IntKind.wrap_i64]; omega
  clear q1 q2 RA5 KL D0
  go_wp2
  clear f8 fd ff
  generalize w5.setCell ⟨gd, d, none⟩ (.int .i64 ((k : Int) + 1)) = W3 at *
  have z8 : W3.cell? ⟨R.b, 8, none⟩ = some (.slice (some ⟨gd, 0, none⟩) R.doers R.diS.c) := by
    have := RA6.out.row.cell' (i := 8) (v := .slice R.diS.a R.diS.n R.diS.c) rfl
    rw [show R.diS.n = R.doers by have h1 := RA6.out.din; have h2 := RA6.out.dil; exact h1.trans h2, HGD.out] at this; exact this
  have zd : W3.cell? ⟨gd, d, none⟩ = some (.int .i64 ((k : Int) + 1)) := by
    obtain ⟨g2, hg2, c2⟩ := RA6.out.didCell (d := d) hd
    obtain rfl : g2 = gd := by have := HGD.out; rw [show (R.withDid d (k + 1)).diS = R.diS from rfl, this] at hg2; simpa using hg2.symm
    have e : (R.withDid d (k + 1)).dids.getD d 0 = k + 1 := by
      have hl : d < R.dids.length := by rw [HR.out.dil]; exact hd
      show (R.dids.set d (k + 1)).getD d 0 = k + 1
      simp [List.getD, hl]
    rw [e] at c2; rw [show ((k : Int) + 1) = ((k + 1 : Nat) : Int) by omega]; exact c2
  have z3 : W3.cell? ⟨R.b, 3, none⟩ = some (.slice (some ⟨g, 0, none⟩) R.tasks.length R.tkS.c) := by
    have := RA6.out.row.cell' (i := 3) (v := .slice R.tkS.a R.tkS.n R.tkS.c) rfl
    rw [show R.tkS.n = R.tasks.length from RA6.out.tkn, HGT.out] at this; exact this
  have ed := HTD.out W3 RA6.out
  clear HTD
  go_quiet (fail)
  have RA4 := hide (RA6.out.drewN nq)
  have CA4 := hide (CA6.out.trans (Chg.drewN W3 nq _))
  have z3' : (W3.drewN nq).cell? ⟨R.b, 3, none⟩ = some (.slice (some ⟨g, 0, none⟩) R.tasks.length R.tkS.c) := z3
  clear z3 z8 zd ed RA6 CA6
  generalize W3.drewN nq = W4 at *
  by_cases hL : k + 1 = L
  · have hL' : ((k : Int) + 1 == (L : Int)) = true := by rw [beq_iff_eq]; omega
    obtain ⟨q1, q2⟩ := refAt_withEnded RA4.out (g := g) HGT.out (m := m) (by exact hm)
    have RA7 := hide q1
    have CA7 := hide (CA4.out.trans q2)
    obtain ⟨g2, hg2, hgl2, hc2⟩ := RA4.out.task (i := m) (by exact hm)
    obtain rfl : g2 = g := by have := HGT.out; rw [show (R.withDid d (k + 1)).tkS = R.tkS from rfl, this] at hg2; simpa using hg2.symm
    have t8 := hc2 8 (.bool ((R.withDid d (k + 1)).tasks[m]'(by exact hm)).ended) rfl
    have tf := RA4.out.tk.frozen (show (R.withDid d (k + 1)).tkS.a = some ⟨g2, 0, none⟩ from HGT.out) (m * 10 + 8)
    obtain ⟨gh2, hgh2, u7⟩ := RA7.out.handCell (d := d) hd
    obtain rfl : gh2 = gh := by have := HGH.out; rw [show ((R.withDid d (k + 1)).withEnded m).haS = R.haS from rfl, this] at hgh2; simpa using hgh2.symm
    have uf := RA7.out.ha.frozen hgh2 d
    have v7 : (W4.setCell ⟨g2, m * 10 + 8, none⟩ (.bool true)).cell? ⟨R.b, 7, none⟩ = some (.slice (some ⟨gh2, 0, none⟩) R.doers R.haS.c) := by
      have := RA7.out.row.cell' (i := 7) (v := .slice R.haS.a R.haS.n R.haS.c) rfl
      rw [show R.haS.n = R.doers by have h1 := RA7.out.han; have h2 := RA7.out.hal; exact h1.trans h2, HGH.out] at this; exact this
    obtain ⟨q3, q4⟩ := refAt_withHand RA7.out hgh2 d 0
    have RA8 := hide q3
    rw [mut_withEnded] at q4
    have CA8 := hide (CA7.out.trans (show Chg _ _ (fun k => k ∈ R.mut) from q4))
    clear q1 q2 q3 q4 hc2 hg2 hgh2 hgl2 RA4 CA4 RA7 CA7 HR
    go_wp2
    go_ret
    exact ⟨(R.withDid d (k + 1)).freed d m, rfl, RA8.out, CA8.out, foot_freed (R.withDid d (k + 1)) d m, rfl, fun _ => rfl, fun h => absurd hL h⟩
  · have hL' : ((k : Int) + 1 == (L : Int)) = false := by rw [beq_eq_false_iff_ne]; omega
    go_wp2
    go_ret
    exact ⟨R.withDid d (k + 1), rfl, RA4.out, CA4.out, rfl, rfl, fun h => absurd h hL, fun _ => rfl⟩

end Go.Proofs.YtlheloogmgmjnaaGreat

namespace Go.Proofs.YtlheloogmgmjnaaGreat
open Go.RowKit

set_option maxHeartbeats 2000000 in
set_option maxRecDepth 100000 in
theorem rStep_off (R : RM) (w : World) (h : RefAt w R) (i : Int) (hi : i < 0 ∨ (R.parts : Int) + R.doers < i) :
    Calls Tryz.prog 45 #[.pointer (some ⟨R.b, 0, none⟩), .int .i64 i] w fun e w' => e = .returned (.bool false) ∧ Below w.heap.size w w' := by
  have c0 := h.row.cell' (i := 0) (v := .int .i64 R.parts) rfl
  have c1 := h.row.cell' (i := 1) (v := .int .i64 R.doers) rfl
  have p8 := h.parts8
  have d6 := h.doers6
  clear h
  by_cases h0 : i < 0
  · have f1 : decide (i < 0) = true := by simp [h0]
    go_enter Tryz.func45, Tryz.ntmps45
    go_wp2
    go_quiet (fail)
    go_wp2
    go_ret
    exact ⟨rfl, below_drewN (Below.refl _ _) _⟩
  · have h2 : (R.parts : Int) + R.doers < i := by omega
    have f1 : decide (i < 0) = false := by simp; omega
    have f2 : decide ((R.parts : Int) + R.doers < i) = true := by simp [h2]
    go_enter Tryz.func45, Tryz.ntmps45
    go_wp2
    go_quiet (fail)
    go_wp2
    go_ret
    exact ⟨rfl, below_drewN (Below.refl _ _) _⟩

set_option maxHeartbeats 2000000 in
set_option maxRecDepth 100000 in
theorem rStep_doer (R : RM) (w : World) (h : RefAt w R) (d : Nat) (hd : d < R.doers) (Q : Ending → World → Prop)
    (hQ : ∀ wx, RefAt wx R → Below w.heap.size w wx → Calls Tryz.prog 80 #[.pointer (some ⟨R.b, 0, none⟩), .int .i64 d] wx fun e w' => (∃ b, e = .returned (.bool b)) ∧ Q e w') :
    Calls Tryz.prog 45 #[.pointer (some ⟨R.b, 0, none⟩), .int .i64 ((R.parts : Int) + d)] w Q := by
  have c0 := h.row.cell' (i := 0) (v := .int .i64 R.parts) rfl
  have c1 := h.row.cell' (i := 1) (v := .int .i64 R.doers) rfl
  have p8 := h.parts8
  have d6 := h.doers6
  have HR := hide h
  have HQ := hide (fun k n => hQ ((w.drewN k).drewN n) ((h.drewN k).drewN n) (below_drewN (below_drewN (Below.refl _ _) _) _))
  clear h hQ
  have f1 : decide (((R.parts : Int) + d) < 0) = false := by simp; omega
  have f2 : decide (((R.parts : Int) + R.doers) < (R.parts : Int) + d) = false := by simp; omega
  have f3 : ¬ (((R.parts : Int) + d) < (R.parts : Int)) := by omega
  have f4 : ((R.parts : Int) + d) < (R.parts : Int) + R.doers := by omega
  have f5 : decide (((R.parts : Int) + d) < (R.parts : Int) + R.doers) = true := by simp; omega
  have f6 : ((R.parts : Int) + d) - (R.parts : Int) = (d : Int) := by omega
  go_enter Tryz.func45, Tryz.ntmps45
  go_wp2
  go_quiet (fail)
  have k0 : (w.drewN nq).cell? ⟨R.b, 0, none⟩ = some (.int .i64 R.parts) := c0
  have k1 : (w.drewN nq).cell? ⟨R.b, 1, none⟩ = some (.int .i64 R.doers) := c1
  have HQ1 := hide (HQ.out nq)
  clear c0 c1 HQ
  generalize w.drewN nq = W at *
  go_wp2
  go_quiet (fail)
  go_wp2_with fail
  refine (HQ1.out _).mono ?_
  rintro e w2 ⟨⟨b, rfl⟩, hq⟩
  have HQ2 := hide hq
  clear hq HQ1
  go_wp2
  exact HQ2.out

end Go.Proofs.YtlheloogmgmjnaaGreat
