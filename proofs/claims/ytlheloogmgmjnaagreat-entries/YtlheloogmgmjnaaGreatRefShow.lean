import Derived.Test.YtlheloogmgmjnaaGreatRefCut
namespace Go.Proofs.YtlheloogmgmjnaaGreat
open Go.RowKit

/-- What Show tells. -/
def RM.state (M : RM) : List Value := [.int .i64 M.tasks.length, .int .i64 M.ends.length, .int .i64 M.ready, .int .i64 M.done, .int .i64 M.mark, .int .i64 M.used, .int .i64 M.live]

set_option maxHeartbeats 2000000 in
set_option maxRecDepth 100000 in
theorem rShow_any (M : RM) (w : World) (h : RefAt w M) :
    Calls Tryz.prog 44 #[.pointer (some ⟨M.b, 0, none⟩)] w fun e w' => e = .returned (.agg M.state.toArray) ∧ Below w.heap.size w w' := by
  have hbl := h.row.lt
  have HW := hide (h.below (below_alloc1 w (.cells #[.int .i64 0, .int .i64 0, .int .i64 0, .int .i64 0, .int .i64 0, .int .i64 0, .int .i64 0] 73)))
  have RZ := hide (rowAt_alloc w [.int .i64 0, .int .i64 0, .int .i64 0, .int .i64 0, .int .i64 0, .int .i64 0, .int .i64 0] 73)
  have BW := hide (below_alloc1 w (.cells #[.int .i64 0, .int .i64 0, .int .i64 0, .int .i64 0, .int .i64 0, .int .i64 0, .int .i64 0] 73))
  clear h
  have hne : ¬ (M.b = w.heap.size) := by omega
  go_enter Tryz.func44, Tryz.ntmps44
  go_wp2
  generalize w.alloc (.cells #[.int .i64 0, .int .i64 0, .int .i64 0, .int .i64 0, .int .i64 0, .int .i64 0, .int .i64 0] 73) = W at *
  have c3 := HW.out.row.cell' (i := 3) (v := .slice M.tkS.a M.tkS.n M.tkS.c) rfl
  have c5 := HW.out.row.cell' (i := 5) (v := .slice M.enS.a M.enS.n M.enS.c) rfl
  rw [HW.out.tkn] at c3
  rw [HW.out.enn] at c5
  have z0 := RZ.out.cell' (i := 0) rfl
  have z1 := RZ.out.cell' (i := 1) rfl
  have z2 := RZ.out.cell' (i := 2) rfl
  have z3 := RZ.out.cell' (i := 3) rfl
  have z4 := RZ.out.cell' (i := 4) rfl
  have z5 := RZ.out.cell' (i := 5) rfl
  have z6 := RZ.out.cell' (i := 6) rfl
  have zf := RZ.out.frozen
  go_region_held (fun w' => w'.cell? ⟨M.b, 3, none⟩ = some (.slice M.tkS.a M.tasks.length M.tkS.c) ∧ w'.cell? ⟨M.b, 5, none⟩ = some (.slice M.enS.a M.ends.length M.enS.c))
    (first | (refine ⟨?_, ?_⟩ <;> simp [c3, c5]; done) | (refine ⟨cell_chg (D := (· = w.heap.size)) ?_ c3 hne, cell_chg (D := (· = w.heap.size)) ?_ c5 hne⟩ <;> exact ((((((((Chg.drewN W _ (· = w.heap.size)).put _ _ rfl).put _ _ rfl).put _ _ rfl).put _ _ rfl).put _ _ rfl).put _ _ rfl).put _ _ rfl)))
    (first
      | (go_at_call 75; refine (rready_any M _ (by first | exact HW.out.drew | exact HW.out.drewN _ | exact (HW.out.drewN _).drew)).mono ?_; rintro e w2 ⟨rfl, n1, rfl⟩)
      | (go_at_call 76; refine (rdone_any M _ (by first | exact HW.out.drew | exact HW.out.drewN _ | exact (HW.out.drewN _).drew | exact (HW.out.drew).drewN _)).mono ?_; rintro e w2 ⟨rfl, rfl⟩)
      | (go_at_call 77; refine (rmark_any M _ (by first | exact HW.out.drew | exact HW.out.drewN _ | exact (HW.out.drewN _).drew | exact (HW.out.drew).drewN _)).mono ?_; rintro e w2 ⟨rfl, rfl⟩)
      | (go_at_call 78; refine (rused_any M _ (by first | exact HW.out.drew | exact HW.out.drewN _ | exact (HW.out.drewN _).drew | exact (HW.out.drew).drewN _)).mono ?_; rintro e w2 ⟨rfl, rfl⟩)
      | (go_at_call 79; refine (rlive_any M _ (by first | exact HW.out.drew | exact HW.out.drewN _ | exact (HW.out.drewN _).drew | exact (HW.out.drew).drewN _)).mono ?_; rintro e w2 ⟨rfl, n2, rfl⟩))
  have q := ((((((((RZ.out.drewN (1 + n1 + n2)).set 0 (.int .i64 M.tasks.length)).set 1 (.int .i64 M.ends.length)).set 2 (.int .i64 M.ready)).set 3 (.int .i64 M.done)).set 4 (.int .i64 M.mark)).set 5 (.int .i64 M.used)).set 6 (.int .i64 M.live))
  have b := BW.out.trans (((((((((Chg.drewN W (1 + n1 + n2) (· = w.heap.size)).put ⟨w.heap.size, 0, none⟩ (.int .i64 M.tasks.length) rfl).put ⟨w.heap.size, 1, none⟩ (.int .i64 M.ends.length) rfl).put ⟨w.heap.size, 2, none⟩ (.int .i64 M.ready) rfl).put ⟨w.heap.size, 3, none⟩ (.int .i64 M.done) rfl).put ⟨w.heap.size, 4, none⟩ (.int .i64 M.mark) rfl).put ⟨w.heap.size, 5, none⟩ (.int .i64 M.used) rfl).put ⟨w.heap.size, 6, none⟩ (.int .i64 M.live) rfl).belowB (B := w.heap.size) (fun k hk => by omega) BW.out.size)
  generalize ((((((((W.drewN (1 + n1 + n2)).setCell ⟨w.heap.size, 0, none⟩ (.int .i64 M.tasks.length)).setCell ⟨w.heap.size, 1, none⟩ (.int .i64 M.ends.length)).setCell ⟨w.heap.size, 2, none⟩ (.int .i64 M.ready)).setCell ⟨w.heap.size, 3, none⟩ (.int .i64 M.done)).setCell ⟨w.heap.size, 4, none⟩ (.int .i64 M.mark)).setCell ⟨w.heap.size, 5, none⟩ (.int .i64 M.used)).setCell ⟨w.heap.size, 6, none⟩ (.int .i64 M.live)) = w9 at *
  have y0 := q.cell' (i := 0) rfl
  have y1 := q.cell' (i := 1) rfl
  have y2 := q.cell' (i := 2) rfl
  have y3 := q.cell' (i := 3) rfl
  have y4 := q.cell' (i := 4) rfl
  have y5 := q.cell' (i := 5) rfl
  have y6 := q.cell' (i := 6) rfl
  clear HW RZ BW c3 c5 z0 z1 z2 z3 z4 z5 z6 zf
  go_wp2
  exact bodyPost_ret (v := .agg #[.int .i64 M.tasks.length, .int .i64 M.ends.length, .int .i64 M.ready, .int .i64 M.done, .int .i64 M.mark, .int .i64 M.used, .int .i64 M.live]) (by simp [results, Tryz.results44, go_sem, y0, y1, y2, y3, y4, y5, y6]) rfl ⟨rfl, b⟩

end Go.Proofs.YtlheloogmgmjnaaGreat
