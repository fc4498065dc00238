import Derived.Test.YtlheloogmgmjnaaGreatProgAdd
namespace Go.Proofs.YtlheloogmgmjnaaGreat
open Go.RowKit

set_option maxHeartbeats 2000000 in
set_option maxRecDepth 100000 in
theorem iClose_no (M : PM) (w : World) (h : PAt w M) (hlt : ¬ M.closed < M.recs.length) :
    Calls Tryz.prog 68 #[.pointer (some ⟨M.b, 2, none⟩)] w fun e w' => (∃ v, e = .returned v) ∧ ∃ n, w' = w.drewN n := by
  have OP := hide (iopen_any M w h)
  rw [show M.recs.length - M.closed = 0 by omega] at OP
  clear h hlt
  go_enter Tryz.func68, Tryz.ntmps68
  go_wp2_with (go_at_call 106; refine OP.out.mono ?_; rintro e w' ⟨rfl, n, rfl⟩)
  refine bodyPost_end (results_none rfl _ _ _) rfl ?_
  exact ⟨⟨_, rfl⟩, _, rfl⟩

set_option maxHeartbeats 2000000 in
set_option maxRecDepth 100000 in
theorem iClose_yes (M : PM) (w : World) (h : PAt w M) (hlt : M.closed < M.recs.length) :
    Calls Tryz.prog 68 #[.pointer (some ⟨M.b, 2, none⟩)] w fun e w' => (∃ v, e = .returned v) ∧ ∃ s, PAt w' (M.withEnd s) ∧ Chg w w' (fun k => k ∈ M.mut) ∧ (∀ k ∈ (M.withEnd s).foot, k ∈ M.foot ∨ w.heap.size ≤ k) := by
  obtain ⟨i0, hi, hz0, hz1, hz2⟩ := info_parts Tryz.info3
  have c2 := h.row.cell' (i := 2) (v := .slice M.rcS.a M.rcS.n M.rcS.c) rfl
  have c3 := h.row.cell' (i := 3) (v := .slice M.enS.a M.enS.n M.enS.c) rfl
  have cf3 := h.row.frozen 3
  rw [h.rcn] at c2
  have ht := h.txns
  have hel := h.ends1
  have hbl := h.row.lt
  have OP := hide (iopen_any M w h)
  have hop : (0 : Int) < ((M.recs.length - M.closed : Nat) : Int) := by omega
  have MM := hide (show M.enS.n + 1 ≤ maxLen by rw [h.enn]; unfold maxLen; omega)
  have QQ := hide (show (M.enS.n + 1) * 8 ≤ 140737488355328 by rw [h.enn]; omega)
  have HR := hide h
  have HL := hide hlt
  clear h hlt
  generalize M.recs.length - M.closed = O at *
  go_enter Tryz.func68, Tryz.ntmps68
  go_wp2_with (go_at_call 106; refine OP.out.mono ?_; rintro e w' ⟨rfl, nq, rfl⟩)
  have HW := hide (HR.out.drewN nq)
  have CW := hide (Chg.drewN w nq (fun _ => False))
  have hsz : (w.drewN nq).heap.size = w.heap.size := rfl
  have d2 : (w.drewN nq).cell? ⟨M.b, 2, none⟩ = some (.slice M.rcS.a M.recs.length M.rcS.c) := c2
  have d3 : (w.drewN nq).cell? ⟨M.b, 3, none⟩ = some (.slice M.enS.a M.enS.n M.enS.c) := c3
  have df : (w.drewN nq).frozen? ⟨M.b, 3, none⟩ = false := cf3
  have hbl' : M.b < (w.drewN nq).heap.size := hbl
  have SZ := hide hsz
  clear hsz c2 c3 cf3 OP hbl
  generalize w.drewN nq = W at *
  have P1 := hide (rowAt_alloc W [.int .i64 M.recs.length] 3)
  have NB := hide (fun hk => by have := HR.out.nodup; rw [PM.mut, List.nodup_cons] at this; exact this.1 (by simp [hk]) : M.b ∉ M.enS.blk)
  go_region_law (go_must (refine step_append_sl rfl (.tmp 9) (.tmp 15) 30 rfl 3 i0 (.int .i64 0) 1 8 Tryz.underlying30 hi hz0 hz1 hz2 rfl (by decide) M.enS (ints (nats M.ends)) rfl (HW.out.en.below (by first | exact (below_alloc1 _ _).drew | exact (Below.refl _ _).drew.alloc (Nat.le_refl _) _)) (some ⟨W.heap.size, 0, none⟩) 1 1 [.int .i64 M.recs.length] rfl rfl (by simp) (fun ad had j u hu => by cases had; rw [addr_add, Nat.zero_add]; first | exact (P1.out.drew).cell' hu | exact P1.out.cell' hu) (by simp [Value.oneCell']) MM.out QQ.out ?_; intro s1 w1 ow1 sn1 ch1 bl1; have OW := hide ow1; have SN := hide sn1; have CH := hide ch1; have BL := hide bl1; have f3 := ((by first | exact ((HW.out.row.alloc _).drew.chg ch1 NB.out) | exact ((HW.out.row.drew.alloc _).chg ch1 NB.out) : RowAt w1 M.b 98 M.row)); have g3 := f3.cell' (i := 3) rfl; have gf := f3.frozen 3; clear ow1 sn1 ch1 bl1 f3))
  all_goals
    have hcc : Chg w w1 (fun k => k ∈ M.enS.blk) := (CW.out.mono (fun _ _ h => h.elim)).trans ((Chg.of_below (below_alloc1 W (.cells #[.int .i64 M.recs.length] 3)).drew _).trans CH.out)
    have hbb : ∀ k ∈ s1.blk, k ∈ M.enS.blk ∨ w.heap.size ≤ k := fun k hk => (BL.out k hk).imp id (fun h => by rw [h, ← SZ.out]; show W.heap.size ≤ (W.alloc _).heap.size; simp)
    obtain ⟨r1, r2, r3⟩ := pAt_withEnd (sv := .slice s1.a s1.n s1.c) HR.out HL.out OW.out SN.out hcc hbb rfl
    have RR := hide r1; have CC := hide r2; have FF := hide r3
    clear r1 r2 r3 hcc hbb OW SN CH BL HW CW d2 d3 df P1
    go_wp2
    refine bodyPost_end (results_none rfl _ _ _) rfl ?_
    exact ⟨⟨_, rfl⟩, s1, RR.out, CC.out, FF.out⟩

set_option maxHeartbeats 2000000 in
set_option maxRecDepth 100000 in
theorem pCut_no (M : PM) (w : World) (h : PAt w M) (hlt : ¬ M.closed < M.recs.length) :
    Calls Tryz.prog 37 #[.pointer (some ⟨M.b, 0, none⟩)] w fun e w' => e = .returned (.int .i64 M.ends.length) ∧ ∃ n, w' = w.drewN n := by
  have CL := hide (iClose_no M w h hlt)
  have BA := hide (fun n => iBatches_any M (w.drewN n) (h.drewN n))
  clear h hlt
  go_enter Tryz.func37, Tryz.ntmps37
  go_wp2_with (first | (go_at_call 68; refine CL.out.mono ?_; rintro e w' ⟨⟨v, rfl⟩, n, rfl⟩) | (go_at_call 60; refine (BA.out _).mono ?_; rintro e w' ⟨rfl, rfl⟩))
  go_ret
  exact ⟨rfl, _, rfl⟩

set_option maxHeartbeats 2000000 in
set_option maxRecDepth 100000 in
theorem pCut_yes (M : PM) (w : World) (h : PAt w M) (hlt : M.closed < M.recs.length) :
    Calls Tryz.prog 37 #[.pointer (some ⟨M.b, 0, none⟩)] w fun e w' => ∃ s, e = .returned (.int .i64 (M.ends.length + 1 : Nat)) ∧ PAt w' (M.withEnd s) ∧ Chg w w' (fun k => k ∈ M.mut) ∧ (∀ k ∈ (M.withEnd s).foot, k ∈ M.foot ∨ w.heap.size ≤ k) := by
  have CL := hide (iClose_yes M w h hlt)
  clear h hlt
  go_enter Tryz.func37, Tryz.ntmps37
  go_wp2_with fail
  refine CL.out.mono ?_
  rintro e w1 ⟨⟨v, rfl⟩, s, hp, hc, hf⟩
  have BA : Hid (Calls Tryz.prog 60 #[.pointer (some ⟨M.b, 2, none⟩)] w1 fun e w' => e = .returned (.int .i64 ((M.ends ++ [M.recs.length]).length : Nat)) ∧ w' = w1) := hide (iBatches_any _ w1 hp)
  have HP := hide hp; have HC := hide hc; have HF := hide hf
  clear hp hc hf CL
  go_wp2_with (go_at_call 60; refine BA.out.mono ?_; rintro e w' ⟨rfl, rfl⟩)
  go_ret
  exact ⟨s, ret_int (by simp), HP.out, HC.out, HF.out⟩

end Go.Proofs.YtlheloogmgmjnaaGreat
