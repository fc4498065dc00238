import Derived.Test.YtlheloogmgmjnaaGreatRefCut
import Derived.Test.YtlheloogmgmjnaaGreatRefCheckAll
import Derived.Test.YtlheloogmgmjnaaGreatCopied
namespace Go.Proofs.YtlheloogmgmjnaaGreat
open Go.RowKit

set_option maxHeartbeats 2000000 in
set_option maxRecDepth 100000 in
theorem rSubmit_bad (M : RM) (w : World) (hd : TH) (t : Tx) (hx : TxAt w hd t) (hc : checkN t ≠ 0) :
    Calls Tryz.prog 73 #[.pointer (some ⟨M.b, 0, none⟩), .agg hd.cells] w fun e w' => e = .returned (.tuple #[.int .i64 0, .int .i64 (checkN t)]) ∧ Below w.heap.size w w' := by
  have RC := hide (fun wx (hb : Below w.heap.size w wx) => rCheck_any hd t wx (hx.below hb))
  clear hx
  obtain ⟨⟨ra, rn, rc⟩, ⟨wa, wn, wc⟩, ⟨ca, cn, cc⟩⟩ := hd
  simp only [TH.cells] at RC
  show Calls Tryz.prog 73 #[.pointer (some ⟨M.b, 0, none⟩), .agg #[.slice ra rn rc, .slice wa wn wc, .slice ca cn cc]] w _
  generalize checkN t = e at *
  have he : (e != 0) = true := by rw [bne_iff_ne]; exact hc
  clear hc
  go_enter Tryz.func73, Tryz.ntmps73
  go_wp2_with fail
  refine (RC.out _ (below_alloc1 _ _)).mono ?_
  rintro e w1 ⟨rfl, hb1⟩
  go_wp2
  go_ret2
  exact ⟨rfl, below_alloc hb1⟩

set_option maxHeartbeats 2000000 in
set_option maxRecDepth 100000 in
theorem rSubmit_many (M : RM) (w : World) (h : RefAt w M) (hd : TH) (t : Tx) (hx : TxAt w hd t) (hc : checkN t = 0) (hm : 150 ≤ M.tasks.length) :
    Calls Tryz.prog 73 #[.pointer (some ⟨M.b, 0, none⟩), .agg hd.cells] w fun e w' => e = .returned (.tuple #[.int .i64 0, .int .i64 6]) ∧ Below w.heap.size w w' := by
  have RC := hide (fun wx (hb : Below w.heap.size w wx) => rCheck_any hd t wx (hx.below hb))
  rw [hc] at RC
  have H := hide (fun wx (hb : Below w.heap.size w wx) => (h.below hb).row.cell' (i := 3) (v := .slice M.tkS.a M.tkS.n M.tkS.c) rfl)
  rw [h.tkn] at H
  have hm' : (150 : Int) ≤ (M.tasks.length : Int) := by omega
  clear h hx hc
  obtain ⟨⟨ra, rn, rc⟩, ⟨wa, wn, wc⟩, ⟨ca, cn, cc⟩⟩ := hd
  simp only [TH.cells] at RC
  show Calls Tryz.prog 73 #[.pointer (some ⟨M.b, 0, none⟩), .agg #[.slice ra rn rc, .slice wa wn wc, .slice ca cn cc]] w _
  go_enter Tryz.func73, Tryz.ntmps73
  go_wp2_with fail
  refine (RC.out _ (below_alloc1 _ _)).mono ?_
  rintro e w1 ⟨rfl, hb1⟩
  have c3 := H.out w1 (below_alloc hb1)
  go_wp2
  go_ret2
  exact ⟨rfl, below_alloc hb1⟩

set_option maxHeartbeats 2000000 in
set_option maxRecDepth 100000 in
theorem rSubmit_full (M : RM) (w : World) (h : RefAt w M) (hd : TH) (t : Tx) (hx : TxAt w hd t) (hc : checkN t = 0) (hm : M.tasks.length < 150) (hf : M.room < M.used + t.w.length) :
    Calls Tryz.prog 73 #[.pointer (some ⟨M.b, 0, none⟩), .agg hd.cells] w fun e w' => e = .returned (.tuple #[.int .i64 0, .int .i64 7]) ∧ Below w.heap.size w w' := by
  have RC := hide (fun wx (hb : Below w.heap.size w wx) => rCheck_any hd t wx (hx.below hb))
  obtain ⟨_, _, w6, _⟩ := checkN_sound t hc
  rw [hc] at RC
  have H := hide (fun wx (hb : Below w.heap.size w wx) => (h.below hb).row.cell' (i := 3) (v := .slice M.tkS.a M.tkS.n M.tkS.c) rfl)
  rw [h.tkn] at H
  have H2 := hide (fun wx (hb : Below w.heap.size w wx) => (h.below hb).row.cell' (i := 2) (v := .int .i64 M.room) rfl)
  have US := hide (fun wx (hb : Below w.heap.size w wx) => rused_any M wx (h.below hb))
  have hul : M.used ≤ 900 := by
    have h1 : ∀ n, ((M.tasks.take n).map fun t => stay t.gone).sum ≤ n * 6 := by
      intro n
      induction n with
      | zero => simp
      | succ n ih =>
        by_cases hn : n < M.tasks.length
        · rw [sum_take_succ M.tasks (fun t => stay t.gone) hn]
          have hT := h.tsk _ (List.getElem_mem hn)
          have := stay_le M.tasks[n].gone
          have := (checkN_sound _ hT.chk).2.2.1
          have := hT.gonel
          omega
        · rw [List.take_of_length_le (by omega)]; rw [List.take_of_length_le (by omega)] at ih; omega
    have := h1 M.tasks.length
    rw [List.take_length] at this
    have := h.txns
    unfold RM.used; omega
  have hwl := hx.wl
  have hr := h.room500
  clear h hx hc
  obtain ⟨⟨ra, rn, rc⟩, ⟨wa, wn, wc⟩, ⟨ca, cn, cc⟩⟩ := hd
  simp only [TH.cells] at RC hwl
  subst hwl
  show Calls Tryz.prog 73 #[.pointer (some ⟨M.b, 0, none⟩), .agg #[.slice ra rn rc, .slice wa t.w.length wc, .slice ca cn cc]] w _
  have hf' : (M.room : Int) < (M.used : Int) + (t.w.length : Int) := by omega
  generalize M.used = U at *
  go_enter Tryz.func73, Tryz.ntmps73
  go_wp2_with fail
  refine (RC.out _ (below_alloc1 _ _)).mono ?_
  rintro e w1 ⟨rfl, hb1⟩
  have A1 := hide ((rowAt_alloc w [.slice ra rn rc, .slice wa t.w.length wc, .slice ca cn cc] 33).below' hb1)
  have B1 := hide (below_alloc hb1)
  have c3 := H.out w1 B1.out
  have c2 := H2.out w1 B1.out
  have a1 := A1.out.cell' (i := 1) rfl
  have US1 := hide (fun n => US.out (w1.drewN n) (below_drewN B1.out n))
  clear hb1 A1 H H2 RC US
  go_wp2
  go_quiet ((go_at_call 78; exact Calls.quiet_of_same (US1.out _)))
  go_wp2
  go_ret2
  exact ⟨rfl, below_drewN B1.out _⟩

end Go.Proofs.YtlheloogmgmjnaaGreat
