import Derived.Test.YtlheloogmgmjnaaGreatT16
import Derived.Deep.RegionHeldLaw
import Derived.Deep.CutRange
namespace Go.Proofs.YtlheloogmgmjnaaGreat
open Go.RowKit

theorem RefAt.used_le {w : World} {M : RM} (h : RefAt w M) : M.used ≤ 900 := by
  have h1 : ∀ n, ((M.tasks.take n).map fun t => stay t.gone).sum ≤ n * 6 := by
    intro n
    induction n with
    | zero => simp
    | succ n ih =>
      by_cases hn : n < M.tasks.length
      · rw [sum_take_succ M.tasks (fun t => stay t.gone) hn]
        have hT := h.tsk _ (List.getElem_mem hn)
        have := stay_le M.tasks[n].gone
        have := (checkN_sound _ hT.chk).2.2.1
        have := hT.gonel
        omega
      · rw [List.take_of_length_le (by omega)]; rw [List.take_of_length_le (by omega)] at ih; omega
  have := h1 M.tasks.length
  rw [List.take_length] at this
  have := h.txns
  unfold RM.used; omega

def zeroTask : List Value := [.slice none 0 0, .slice none 0 0, .slice none 0 0, .slice none 0 0, .bool false, .int .i64 0, .slice none 0 0, .slice none 0 0, .bool false, .slice none 0 0]

theorem Tryz.info171 : (Tryz.prog.info? 171).map (fun i => (i.zero, i.size, i.bytes)) = some (some (.agg zeroTask.toArray), 10, 192) := by kernel_rfl
theorem Tryz.underlying39 : Tryz.prog.underlying 39 = some (.slice 171) := by kernel_rfl

theorem made_false (n : Nat) : madeCells #[.bool false] n = (bools (List.replicate n false)).toArray := by
  have := made_bool n
  rw [Nat.mul_one] at this
  rw [← this]
  simp [Value.cells]

theorem tskRow_oneCell (T : Tsk) : ∀ v ∈ T.row, v.oneCell' = true := by
  intro v hv
  simp only [Tsk.row, List.mem_cons, List.not_mem_nil, or_false] at hv
  rcases hv with h | h | h | h | h | h | h | h | h | h <;> subst h <;> rfl

theorem OwnTx.below {w w' : World} {h : TH} {t : Tx} (o : OwnTx w h t) (hb : Below w.heap.size w w') : OwnTx w' h t := ⟨o.rO.below hb, o.wO.below hb, o.cO.below hb, o.rn, o.wn, o.cn⟩

set_option maxHeartbeats 4000000 in
set_option maxRecDepth 100000 in
theorem rSubmit_ok (M : RM) (w : World) (h : RefAt w M) (hd : TH) (t : Tx) (hx : TxAt w hd t) (hn : hd.nilOk) (hc : checkN t = 0) (hm : M.tasks.length < 150) (hf : M.used + t.w.length ≤ M.room) :
    Calls Tryz.prog 73 #[.pointer (some ⟨M.b, 0, none⟩), .agg hd.cells] w fun e w' => ∃ (T : Tsk) (s : Sl) (M' : RM), e = .returned (.tuple #[.int .i64 (M.tasks.length + 1 : Nat), .int .i64 0]) ∧ RefAt w' M' ∧ T.tx = t ∧ T.crs = goCrs t M.hv ∧ T.ended = false ∧ T.gone = List.replicate t.w.length false ∧
      (M.tasks.length + 1 - M.closed = 6 → ∃ s2, M' = (M.withTask T (putTo M.hv t.w (goCrs t M.hv).ws t.w.length) s).withEnd s2) ∧ (¬ M.tasks.length + 1 - M.closed = 6 → M' = M.withTask T (putTo M.hv t.w (goCrs t M.hv).ws t.w.length) s) ∧
      Chg w w' (fun k => k ∈ M.mut) ∧ (∀ k ∈ M'.foot, k ∈ M.foot ∨ w.heap.size ≤ k) := by
  obtain ⟨i0, hi, hz0, hz1, hz2⟩ := info_parts Tryz.info3
  have RC := hide (fun wx (hb : Below w.heap.size w wx) => rCheck_any hd t wx (hx.below hb))
  obtain ⟨c30, r6, w6, hkr, hkw, hsnd⟩ := checkN_sound t hc
  rw [hc] at RC
  have H3 := hide (fun wx (hb : Below w.heap.size w wx) => (h.below hb).row.cell' (i := 3) (v := .slice M.tkS.a M.tkS.n M.tkS.c) rfl)
  rw [h.tkn] at H3
  have H2 := hide (fun wx (hb : Below w.heap.size w wx) => (h.below hb).row.cell' (i := 2) (v := .int .i64 M.room) rfl)
  have H4 := hide (fun wx (hb : Below w.heap.size w wx) => (h.below hb).row.cell' (i := 4) (v := .slice M.hvS.a M.hvS.n M.hvS.c) rfl)
  rw [h.hvn] at H4
  have US := hide (fun wx (hb : Below w.heap.size w wx) => rused_any M wx (h.below hb))
  have hul := h.used_le
  have CP := hide (fun wx (hb : Below w.heap.size w wx) => rcopied_any hd t wx (hx.below hb) hn)
  have HX := hide hx
  have HR := hide h
  have HC := hide hc
  have hwl := hx.wl
  have hr := h.room500
  clear h hx hc hn
  obtain ⟨⟨ra, rn, rc⟩, ⟨wa, wn, wc⟩, ⟨ca, cn, cc⟩⟩ := hd
  simp only [TH.cells] at RC CP hwl
  subst hwl
  show Calls Tryz.prog 73 #[.pointer (some ⟨M.b, 0, none⟩), .agg #[.slice ra rn rc, .slice wa t.w.length wc, .slice ca cn cc]] w _
  have hf' : ¬ (M.room : Int) < (M.used : Int) + (t.w.length : Int) := by omega
  have HF := hide hf
  generalize M.used = U at *
  go_enter Tryz.func73, Tryz.ntmps73
  go_wp2_with fail
  refine (RC.out _ (below_alloc1 _ _)).mono ?_
  rintro e w1 ⟨rfl, hb1⟩
  have A1 := hide ((rowAt_alloc w [.slice ra rn rc, .slice wa t.w.length wc, .slice ca cn cc] 33).below' hb1)
  have B1 := hide (below_alloc hb1)
  have c3 := H3.out w1 B1.out
  have c2 := H2.out w1 B1.out
  have a0 := A1.out.cell' (i := 0) rfl
  have a1 := A1.out.cell' (i := 1) rfl
  have a2 := A1.out.cell' (i := 2) rfl
  have US1 := hide (fun n => US.out (w1.drewN n) (below_drewN B1.out n))
  clear hb1 RC US H2
  go_wp2
  go_quiet ((go_at_call 78; exact Calls.quiet_of_same (US1.out _)))
  go_wp2_with fail
  refine (CP.out _ (below_drewN B1.out _)).mono ?_
  rintro e w2 ⟨h', rfl, ow, hbk, hb2⟩
  have B2 := hide (below_on (below_drewN B1.out nq) hb2)
  have OW := hide ow
  have HB := hide hbk
  have SZ1 : Hid (w.heap.size ≤ (w1.drewN nq).heap.size) := hide B1.out.size
  clear ow hbk CP US1 c2 c3 a0 a1 a2 A1
  obtain ⟨⟨ra', rn', rc'⟩, ⟨wa', wn', wc'⟩, ⟨ca', cn', cc'⟩⟩ := h'
  have e1 := OW.out.rn; have e2 := OW.out.wn; have e3 := OW.out.cn
  simp only at e1 e2 e3
  subst e1 e2 e3
  simp only
  go_wp2
  have CB := hide (rowAt_alloc w2 [.slice ra' t.r.length rc', .slice wa' t.w.length wc', .slice ca' t.c.length cc'] 33)
  have OT := hide (OW.out.below (below_alloc1 w2 (.cells #[.slice ra' t.r.length rc', .slice wa' t.w.length wc', .slice ca' t.c.length cc'] 33)))
  have BW := hide (below_on B2.out (below_alloc1 w2 (.cells #[.slice ra' t.r.length rc', .slice wa' t.w.length wc', .slice ca' t.c.length cc'] 33)))
  have hcs : (w2.alloc (.cells #[.slice ra' t.r.length rc', .slice wa' t.w.length wc', .slice ca' t.c.length cc'] 33)).heap.size = w2.heap.size + 1 := by simp
  have LT := hide (fun k (hk : k ∈ TH.blks ⟨⟨ra', t.r.length, rc'⟩, ⟨wa', t.w.length, wc'⟩, ⟨ca', t.c.length, cc'⟩⟩) => (by
    simp only [TH.blks, List.mem_append] at hk
    rcases hk with hk | hk | hk
    · exact OW.out.rO.blk_lt k hk
    · exact OW.out.wO.blk_lt k hk
    · exact OW.out.cO.blk_lt k hk : k < w2.heap.size))
  obtain ⟨cB, hcB⟩ : ∃ cB, cB = w2.heap.size := ⟨_, rfl⟩
  rw [← hcB] at CB hcs LT ⊢
  generalize w2.alloc (.cells #[.slice ra' t.r.length rc', .slice wa' t.w.length wc', .slice ca' t.c.length cc'] 33) = W at *
  have HRW := hide (HR.out.below BW.out)
  have c4 := H4.out W BW.out
  have p0 := CB.out.cell' (i := 0) rfl
  have p1 := CB.out.cell' (i := 1) rfl
  have p2 := CB.out.cell' (i := 2) rfl
  have SZ := hide hcs
  have HCB := hide hcB
  clear OW hcs hcB hb2 B1
  have KL : Hid (∀ w', Below W.heap.size W w' → (w'.cell? ⟨cB, 0, none⟩ = some (.slice ra' t.r.length rc') ∧ w'.cell? ⟨cB, 1, none⟩ = some (.slice wa' t.w.length wc') ∧ w'.cell? ⟨cB, 2, none⟩ = some (.slice ca' t.c.length cc') ∧ w'.cell? ⟨M.b, 4, none⟩ = some (.slice M.hvS.a 24 M.hvS.c) ∧ Below W.heap.size W w')) := fun w' hB =>
    ⟨cell_below hB (Nat.le_refl _) p0, cell_below hB (Nat.le_refl _) p1, cell_below hB (Nat.le_refl _) p2, cell_below hB (Nat.le_refl _) c4, hB⟩
  have GO := hide (fun wx (hb : Below W.heap.size W wx) => rGo_any ⟨⟨ra', t.r.length, rc'⟩, ⟨wa', t.w.length, wc'⟩, ⟨ca', t.c.length, cc'⟩⟩ t M.hv M.hvS.a M.hvS.c wx ((OT.out.below hb).at HX.out) HC.out (HRW.out.hv.slots.below hb) HRW.out.hvl)
  simp only [TH.cells] at GO
  have hmb := run_make_row' (P := Tryz.prog) 60 4 (.bool false) 1 Tryz.underlying60 Tryz.info4 rfl .i64 .i64 t.w.length (by omega) (by omega)
  have TX : Hid (∀ wx, Below W.heap.size W wx → TxAt wx ⟨⟨ra', t.r.length, rc'⟩, ⟨wa', t.w.length, wc'⟩, ⟨ca', t.c.length, cc'⟩⟩ t) := hide (fun wx hb => (OT.out.below hb).at HX.out)
  have GL := hide (goCrs_len t M.hv)
  have MKR : Hid (∀ wx : World, (Instr.makeSlice 60 (.int .i64 (t.w.length : Int)) (.int .i64 (t.w.length : Int))).run Tryz.prog wx = .ok (.slice (some ⟨wx.heap.size, 0, none⟩) t.w.length t.w.length) (wx.alloc (.cells (bools (List.replicate t.w.length false)).toArray 4))) := hide (fun wx => by rw [hmb wx, made_false])
  clear hmb
  go_cut [8] from 35 to 46 (fun x wx => ∃ (g : Nat) (T : Tsk), x = .pointer (some ⟨g, 0, none⟩) ∧ Laid W wx g T ∧ T.tx = t ∧ T.crs = goCrs t M.hv ∧ T.ended = false ∧ T.gone = List.replicate t.w.length false ∧ T.h = ⟨⟨ra', t.r.length, rc'⟩, ⟨wa', t.w.length, wc'⟩, ⟨ca', t.c.length, cc'⟩⟩)
  case first =>
    rename_i K1 hC J K' hJ hMet
    clear hC K1
    have HJ := hide hJ; have HM := hide hMet
    clear hJ hMet
    clear hkr hkw hsnd H3 H4 HR HRW HF HB B2 LT CB BW OT HX
    refine wp_region_held_drew (S := (fun w' => w'.cell? ⟨cB, 0, none⟩ = some (.slice ra' t.r.length rc') ∧ w'.cell? ⟨cB, 1, none⟩ = some (.slice wa' t.w.length wc') ∧ w'.cell? ⟨cB, 2, none⟩ = some (.slice ca' t.c.length cc') ∧ w'.cell? ⟨M.b, 4, none⟩ = some (.slice M.hvS.a 24 M.hvS.c) ∧ Below W.heap.size W w')) (by kernel_rfl) (KL.out _ (Below.refl _ _).drew) (fun hHeld => ?_)
    have B0 : Hid (Below W.heap.size W W.drew) := hide (Below.refl _ _).drew
    refine wpAnyH_take (i := 0) (v := ?_) rfl (by kernel_rfl) (by kernel_rfl) (by kernel_rfl) (fun _ _ _ h => h) (Or.inl ⟨by rfl, ?_⟩) (by assumption) ?_
    rotate_left
    · intro w hSw; (try dsimp only at hSw); (go_simp <;> with_reducible rfl)
    try simp only [List.getElem_toArray, List.getElem_cons_zero, Act.put, List.setIfInBounds_toArray, List.set_cons_zero, List.set_cons_succ]
    refine wpAnyH_take (i := 1) (v := ?_) rfl (by kernel_rfl) (by kernel_rfl) (by kernel_rfl) (fun _ _ _ h => h) (Or.inl ⟨by rfl, ?_⟩) (by assumption) ?_
    rotate_left
    · intro w hSw; (try dsimp only at hSw); (go_simp <;> with_reducible rfl)
    try simp only [List.getElem_toArray, List.getElem_cons_zero, List.getElem_cons_succ, Act.put, List.setIfInBounds_toArray, List.set_cons_zero, List.set_cons_succ]
    refine wpAnyH_take (i := 2) (v := ?_) rfl (by kernel_rfl) (by kernel_rfl) (by kernel_rfl) (fun _ _ _ h => h) (Or.inl ⟨by rfl, ?_⟩) (by assumption) ?_
    rotate_left
    · intro w hSw; (try dsimp only at hSw); (go_simp <;> with_reducible rfl)
    try simp only [List.getElem_toArray, List.getElem_cons_zero, List.getElem_cons_succ, Act.put, List.setIfInBounds_toArray, List.set_cons_zero, List.set_cons_succ]
    refine wpAnyH_take (i := 3) (v := ?_) rfl (by kernel_rfl) (by kernel_rfl) (by kernel_rfl) (fun _ _ _ h => h) (Or.inl ⟨by rfl, ?_⟩) (by assumption) ?_
    rotate_left
    · intro w hSw; (try dsimp only at hSw); (go_simp <;> with_reducible rfl)
    try simp only [List.getElem_toArray, List.getElem_cons_zero, List.getElem_cons_succ, Act.put, List.setIfInBounds_toArray, List.set_cons_zero, List.set_cons_succ]
    refine wpAnyH_take (i := 4) (v := ?_) rfl (by kernel_rfl) (by kernel_rfl) (by kernel_rfl) (fun _ _ _ h => h) (Or.inl ⟨by rfl, ?_⟩) (by assumption) ?_
    rotate_left
    · intro w hSw; (try dsimp only at hSw); (go_simp <;> with_reducible rfl)
    try simp only [List.getElem_toArray, List.getElem_cons_zero, List.getElem_cons_succ, Act.put, List.setIfInBounds_toArray, List.set_cons_zero, List.set_cons_succ]
    refine wpAnyH_take (i := 5) (v := ?_) rfl (by kernel_rfl) (by kernel_rfl) (by kernel_rfl) (fun _ _ _ h => h) (Or.inl ⟨by rfl, ?_⟩) (by assumption) ?_
    rotate_left
    · intro w hSw; (try dsimp only at hSw); (go_simp <;> with_reducible rfl)
    try simp only [List.getElem_toArray, List.getElem_cons_zero, List.getElem_cons_succ, Act.put, List.setIfInBounds_toArray, List.set_cons_zero, List.set_cons_succ]
    refine wpAnyH_take (i := 7) (v := ?_) rfl (by kernel_rfl) (by kernel_rfl) (by kernel_rfl) (fun _ _ _ h => h) (Or.inl ⟨by rfl, ?_⟩) (by assumption) ?_
    rotate_left
    · intro w hSw; (try dsimp only at hSw); (go_simp <;> with_reducible rfl)
    try simp only [List.getElem_toArray, List.getElem_cons_zero, List.getElem_cons_succ, Act.put, List.setIfInBounds_toArray, List.set_cons_zero, List.set_cons_succ]
    refine wpAnyH_take (i := 8) (v := ?_) rfl (by kernel_rfl) (by kernel_rfl) (by kernel_rfl) (fun _ _ _ h => h) (Or.inl ⟨by rfl, ?_⟩) (by assumption) ?_
    rotate_left
    · intro w hSw; (try dsimp only at hSw); (go_simp <;> with_reducible rfl)
    try simp only [List.getElem_toArray, List.getElem_cons_zero, List.getElem_cons_succ, Act.put, List.setIfInBounds_toArray, List.set_cons_zero, List.set_cons_succ]
    refine wpAnyH_take (i := 9) (v := ?_) rfl (by kernel_rfl) (by kernel_rfl) (by kernel_rfl) (fun _ _ _ h => h) (Or.inl ⟨by rfl, ?_⟩) (by assumption) ?_
    rotate_left
    · intro w hSw; (try dsimp only at hSw); (go_simp <;> with_reducible rfl)
    try simp only [List.getElem_toArray, List.getElem_cons_zero, List.getElem_cons_succ, Act.put, List.setIfInBounds_toArray, List.set_cons_zero, List.set_cons_succ]
    refine wpAnyH_ready (rs := [6, 10, 12]) (by kernel_rfl) (by simp) ?_
    refine AllReadyH.cons rfl (fun K hK => ?_) (AllReadyH.cons rfl (fun K hK => ?_) (AllReadyH.cons rfl (fun K hK => ?_) AllReadyH.nil))
    · rw [if_pos (by rfl)]
      simp only [List.getElem_toArray, List.getElem_cons_zero, List.getElem_cons_succ]
      go_simp
      refine (GO.out _ B0.out).mono ?_
      rintro e wG ⟨sd, sw, ss, rfl, g1, g2, g3, g4, g5, g6, g7, hbg⟩
      have bG := hide hbg; have F1 := hide g1; have F2 := hide g2; have F3 := hide g3; have F4 := hide g4; have F5 := hide g5; have F6 := hide g6; have F7 := hide g7
      have BG := hide (below_on B0.out hbg)
      clear g1 g2 g3 g4 g5 g6 g7 hbg
      refine hK.out _ _ (KL.out _ BG.out) (fun hHeld => ?_)
      clear hK K
      try simp only [List.getElem_toArray, List.getElem_cons_zero, List.getElem_cons_succ, Act.put, List.setIfInBounds_toArray, List.set_cons_zero, List.set_cons_succ]
      refine wpAnyH_ready (rs := [10, 12]) (by kernel_rfl) (by simp) ?_
      refine AllReadyH.cons rfl (fun K hK => ?_) (AllReadyH.cons rfl (fun K hK => ?_) AllReadyH.nil)
      · rw [if_pos (by rfl)]
        simp only [List.getElem_toArray, List.getElem_cons_zero, List.getElem_cons_succ]
        refine wp_make_row 60 (.tmp 44) (.tmp 44) rfl .i64 .i64 t.w.length rfl rfl 4 (bools (List.replicate t.w.length false)) (MKR.out _) ?_
        intro wM rM hbm sM
        have bM := hide hbm; have RM1 := hide rM; have SM := hide sM
        have BM := hide (below_on BG.out hbm)
        clear rM hbm sM
        refine hK.out _ _ (KL.out _ BM.out) (fun hHeld => ?_)
        clear hK K
        try simp only [Act.put, List.setIfInBounds_toArray, List.set_cons_zero, List.set_cons_succ]
        refine wpAnyH_take (i := 11) (v := ?_) rfl (by kernel_rfl) (by kernel_rfl) (by kernel_rfl) (fun _ _ _ h => h) (Or.inl ⟨by rfl, ?_⟩) (by assumption) ?_
        rotate_left
        · intro w hSw; (try dsimp only at hSw); (go_simp <;> with_reducible rfl)
        try simp only [List.getElem_toArray, List.getElem_cons_zero, List.getElem_cons_succ, Act.put, List.setIfInBounds_toArray, List.set_cons_zero, List.set_cons_succ]
        refine wpAnyH_ready (rs := [12]) (by kernel_rfl) (by simp) ?_
        refine AllReadyH.cons rfl (fun K hK => ?_) AllReadyH.nil
        · rw [if_pos (by rfl)]
          simp only [List.getElem_toArray, List.getElem_cons_zero, List.getElem_cons_succ]
          refine wp_alloc_row 171 rfl (.agg zeroTask.toArray) zeroTask (by kernel_rfl) rfl ?_
          intro wA rA hba sA
          have bA := hide hba; have RA := hide rA; have SA := hide sA
          have BA := hide (below_on BM.out hba)
          clear rA hba sA
          refine hK.out _ _ (KL.out _ BA.out) (fun hHeld => ?_)
          clear hK K
          try simp only [Act.put, List.setIfInBounds_toArray, List.set_cons_zero, List.set_cons_succ]
          refine wpAnyH_ready (rs := [13]) (by kernel_rfl) (by simp) ?_
          refine AllReadyH.cons rfl (fun K hK => ?_) AllReadyH.nil
          rw [if_pos (by rfl)]
          simp only [List.getElem_toArray, List.getElem_cons_zero, List.getElem_cons_succ]
          refine wp_store_row 171 (.tmp 8) (.tmp 46) rfl wM.heap.size rfl (Tsk.row ⟨t, goCrs t M.hv, false, List.replicate t.w.length false, ⟨⟨ra', t.r.length, rc'⟩, ⟨wa', t.w.length, wc'⟩, ⟨ca', t.c.length, cc'⟩⟩, sd, sw, ss, ⟨some ⟨wG.heap.size, 0, none⟩, t.w.length, t.w.length⟩⟩) zeroTask 171 RA.out rfl rfl (by kernel_rfl) (tskRow_oneCell _) ?_
          intro w4 r4 c4 s4
          have k0 := B0.out.size; have kG := bG.out.size; have kM := bM.out.size; have kA := bA.out.size; have sA := SA.out; have sM := SM.out
          have LD := hide (laid_of (W := W) (w3 := wA) (lo := W.heap.size) (hi := wG.heap.size) TX.out HC.out GL.out.1 GL.out.2 ((F1.out.below bM.out).below bA.out) F2.out ((F3.out.below bM.out).below bA.out) F4.out ((F5.out.below bM.out).below bA.out) F6.out F7.out (by omega) (by omega) (by omega) (by omega) (by omega) (by omega) (by omega) (RM1.out.below' bA.out) c4 s4 r4 BA.out)
          clear k0 kG kM kA sA sM
          refine hK.out _ _ (KL.out _ LD.out.below) (fun hHeld => ?_)
          refine wpAnyH_done (by kernel_rfl) ?_ _
          simp only [Act.put]
          exact HM.out _ _ (HJ.out _ _ ⟨_, _, _, _, _, _, _, _, _, _, _, _, _, ⟨_, _, rfl, LD.out, rfl, rfl, rfl, rfl, rfl⟩, rfl⟩)
      · rw [if_pos (by rfl)]
        simp only [List.getElem_toArray, List.getElem_cons_zero, List.getElem_cons_succ]
        refine wp_alloc_row 171 rfl (.agg zeroTask.toArray) zeroTask (by kernel_rfl) rfl ?_
        intro wA rA hba sA
        have bA := hide hba; have RA := hide rA; have SA := hide sA
        have BA := hide (below_on BG.out hba)
        clear rA hba sA
        refine hK.out _ _ (KL.out _ BA.out) (fun hHeld => ?_)
        clear hK K
        try simp only [Act.put, List.setIfInBounds_toArray, List.set_cons_zero, List.set_cons_succ]
        refine wpAnyH_ready (rs := [10]) (by kernel_rfl) (by simp) ?_
        refine AllReadyH.cons rfl (fun K hK => ?_) AllReadyH.nil
        · rw [if_pos (by rfl)]
          simp only [List.getElem_toArray, List.getElem_cons_zero, List.getElem_cons_succ]
          refine wp_make_row 60 (.tmp 44) (.tmp 44) rfl .i64 .i64 t.w.length rfl rfl 4 (bools (List.replicate t.w.length false)) (MKR.out _) ?_
          intro wM rM hbm sM
          have bM := hide hbm; have RM1 := hide rM; have SM := hide sM
          have BM := hide (below_on BA.out hbm)
          clear rM hbm sM
          refine hK.out _ _ (KL.out _ BM.out) (fun hHeld => ?_)
          clear hK K
          try simp only [Act.put, List.setIfInBounds_toArray, List.set_cons_zero, List.set_cons_succ]
          refine wpAnyH_take (i := 11) (v := ?_) rfl (by kernel_rfl) (by kernel_rfl) (by kernel_rfl) (fun _ _ _ h => h) (Or.inl ⟨by rfl, ?_⟩) (by assumption) ?_
          rotate_left
          · intro w hSw; (try dsimp only at hSw); (go_simp <;> with_reducible rfl)
          try simp only [List.getElem_toArray, List.getElem_cons_zero, List.getElem_cons_succ, Act.put, List.setIfInBounds_toArray, List.set_cons_zero, List.set_cons_succ]
          refine wpAnyH_ready (rs := [13]) (by kernel_rfl) (by simp) ?_
          refine AllReadyH.cons rfl (fun K hK => ?_) AllReadyH.nil
          rw [if_pos (by rfl)]
          simp only [List.getElem_toArray, List.getElem_cons_zero, List.getElem_cons_succ]
          refine wp_store_row 171 (.tmp 8) (.tmp 46) rfl wG.heap.size rfl (Tsk.row ⟨t, goCrs t M.hv, false, List.replicate t.w.length false, ⟨⟨ra', t.r.length, rc'⟩, ⟨wa', t.w.length, wc'⟩, ⟨ca', t.c.length, cc'⟩⟩, sd, sw, ss, ⟨some ⟨wA.heap.size, 0, none⟩, t.w.length, t.w.length⟩⟩) zeroTask 171 (RA.out.below' bM.out) rfl rfl (by kernel_rfl) (tskRow_oneCell _) ?_
          intro w4 r4 c4 s4
          have k0 := B0.out.size; have kG := bG.out.size; have kM := bM.out.size; have kA := bA.out.size; have sA := SA.out; have sM := SM.out
          have LD := hide (laid_of (W := W) (w3 := wM) (lo := W.heap.size) (hi := wG.heap.size) TX.out HC.out GL.out.1 GL.out.2 ((F1.out.below bA.out).below bM.out) F2.out ((F3.out.below bA.out).below bM.out) F4.out ((F5.out.below bA.out).below bM.out) F6.out F7.out (by omega) (by omega) (by omega) (by omega) (by omega) (by omega) (by omega) RM1.out c4 s4 r4 BM.out)
          clear k0 kG kM kA sA sM
          refine hK.out _ _ (KL.out _ LD.out.below) (fun hHeld => ?_)
          refine wpAnyH_done (by kernel_rfl) ?_ _
          simp only [Act.put]
          exact HM.out _ _ (HJ.out _ _ ⟨_, _, _, _, _, _, _, _, _, _, _, _, _, ⟨_, _, rfl, LD.out, rfl, rfl, rfl, rfl, rfl⟩, rfl⟩)
    · rw [if_pos (by rfl)]
      simp only [List.getElem_toArray, List.getElem_cons_zero, List.getElem_cons_succ]
      refine wp_make_row 60 (.tmp 44) (.tmp 44) rfl .i64 .i64 t.w.length rfl rfl 4 (bools (List.replicate t.w.length false)) (MKR.out _) ?_
      intro wM rM hbm sM
      have bM := hide hbm; have RM1 := hide rM; have SM := hide sM
      have BM := hide (below_on B0.out hbm)
      clear rM hbm sM
      refine hK.out _ _ (KL.out _ BM.out) (fun hHeld => ?_)
      clear hK K
      try simp only [Act.put, List.setIfInBounds_toArray, List.set_cons_zero, List.set_cons_succ]
      refine wpAnyH_ready (rs := [6, 12]) (by kernel_rfl) (by simp) ?_
      refine AllReadyH.cons rfl (fun K hK => ?_) (AllReadyH.cons rfl (fun K hK => ?_) AllReadyH.nil)
      · rw [if_pos (by rfl)]
        simp only [List.getElem_toArray, List.getElem_cons_zero, List.getElem_cons_succ]
        go_simp
        refine (GO.out _ BM.out).mono ?_
        rintro e wG ⟨sd, sw, ss, rfl, g1, g2, g3, g4, g5, g6, g7, hbg⟩
        have bG := hide hbg; have F1 := hide g1; have F2 := hide g2; have F3 := hide g3; have F4 := hide g4; have F5 := hide g5; have F6 := hide g6; have F7 := hide g7
        have BG := hide (below_on BM.out hbg)
        clear g1 g2 g3 g4 g5 g6 g7 hbg
        refine hK.out _ _ (KL.out _ BG.out) (fun hHeld => ?_)
        clear hK K
        try simp only [List.getElem_toArray, List.getElem_cons_zero, List.getElem_cons_succ, Act.put, List.setIfInBounds_toArray, List.set_cons_zero, List.set_cons_succ]
        refine wpAnyH_take (i := 11) (v := ?_) rfl (by kernel_rfl) (by kernel_rfl) (by kernel_rfl) (fun _ _ _ h => h) (Or.inl ⟨by rfl, ?_⟩) (by assumption) ?_
        rotate_left
        · intro w hSw; (try dsimp only at hSw); (go_simp <;> with_reducible rfl)
        try simp only [List.getElem_toArray, List.getElem_cons_zero, List.getElem_cons_succ, Act.put, List.setIfInBounds_toArray, List.set_cons_zero, List.set_cons_succ]
        refine wpAnyH_ready (rs := [12]) (by kernel_rfl) (by simp) ?_
        refine AllReadyH.cons rfl (fun K hK => ?_) AllReadyH.nil
        · rw [if_pos (by rfl)]
          simp only [List.getElem_toArray, List.getElem_cons_zero, List.getElem_cons_succ]
          refine wp_alloc_row 171 rfl (.agg zeroTask.toArray) zeroTask (by kernel_rfl) rfl ?_
          intro wA rA hba sA
          have bA := hide hba; have RA := hide rA; have SA := hide sA
          have BA := hide (below_on BG.out hba)
          clear rA hba sA
          refine hK.out _ _ (KL.out _ BA.out) (fun hHeld => ?_)
          clear hK K
          try simp only [Act.put, List.setIfInBounds_toArray, List.set_cons_zero, List.set_cons_succ]
          refine wpAnyH_ready (rs := [13]) (by kernel_rfl) (by simp) ?_
          refine AllReadyH.cons rfl (fun K hK => ?_) AllReadyH.nil
          rw [if_pos (by rfl)]
          simp only [List.getElem_toArray, List.getElem_cons_zero, List.getElem_cons_succ]
          refine wp_store_row 171 (.tmp 8) (.tmp 46) rfl wG.heap.size rfl (Tsk.row ⟨t, goCrs t M.hv, false, List.replicate t.w.length false, ⟨⟨ra', t.r.length, rc'⟩, ⟨wa', t.w.length, wc'⟩, ⟨ca', t.c.length, cc'⟩⟩, sd, sw, ss, ⟨some ⟨W.heap.size, 0, none⟩, t.w.length, t.w.length⟩⟩) zeroTask 171 RA.out rfl rfl (by kernel_rfl) (tskRow_oneCell _) ?_
          intro w4 r4 c4 s4
          have k0 := B0.out.size; have kG := bG.out.size; have kM := bM.out.size; have kA := bA.out.size; have sA := SA.out; have sM := SM.out
          have LD := hide (laid_of (W := W) (w3 := wA) (lo := wM.heap.size) (hi := wG.heap.size) TX.out HC.out GL.out.1 GL.out.2 (F1.out.below bA.out) F2.out (F3.out.below bA.out) F4.out (F5.out.below bA.out) F6.out F7.out (by omega) (by omega) (by omega) (by omega) (by omega) (by omega) (by omega) ((RM1.out.below' bG.out).below' bA.out) c4 s4 r4 BA.out)
          clear k0 kG kM kA sA sM
          refine hK.out _ _ (KL.out _ LD.out.below) (fun hHeld => ?_)
          refine wpAnyH_done (by kernel_rfl) ?_ _
          simp only [Act.put]
          exact HM.out _ _ (HJ.out _ _ ⟨_, _, _, _, _, _, _, _, _, _, _, _, _, ⟨_, _, rfl, LD.out, rfl, rfl, rfl, rfl, rfl⟩, rfl⟩)
      · rw [if_pos (by rfl)]
        simp only [List.getElem_toArray, List.getElem_cons_zero, List.getElem_cons_succ]
        refine wp_alloc_row 171 rfl (.agg zeroTask.toArray) zeroTask (by kernel_rfl) rfl ?_
        intro wA rA hba sA
        have bA := hide hba; have RA := hide rA; have SA := hide sA
        have BA := hide (below_on BM.out hba)
        clear rA hba sA
        refine hK.out _ _ (KL.out _ BA.out) (fun hHeld => ?_)
        clear hK K
        try simp only [Act.put, List.setIfInBounds_toArray, List.set_cons_zero, List.set_cons_succ]
        refine wpAnyH_ready (rs := [6]) (by kernel_rfl) (by simp) ?_
        refine AllReadyH.cons rfl (fun K hK => ?_) AllReadyH.nil
        · rw [if_pos (by rfl)]
          simp only [List.getElem_toArray, List.getElem_cons_zero, List.getElem_cons_succ]
          go_simp
          refine (GO.out _ BA.out).mono ?_
          rintro e wG ⟨sd, sw, ss, rfl, g1, g2, g3, g4, g5, g6, g7, hbg⟩
          have bG := hide hbg; have F1 := hide g1; have F2 := hide g2; have F3 := hide g3; have F4 := hide g4; have F5 := hide g5; have F6 := hide g6; have F7 := hide g7
          have BG := hide (below_on BA.out hbg)
          clear g1 g2 g3 g4 g5 g6 g7 hbg
          refine hK.out _ _ (KL.out _ BG.out) (fun hHeld => ?_)
          clear hK K
          try simp only [List.getElem_toArray, List.getElem_cons_zero, List.getElem_cons_succ, Act.put, List.setIfInBounds_toArray, List.set_cons_zero, List.set_cons_succ]
          refine wpAnyH_take (i := 11) (v := ?_) rfl (by kernel_rfl) (by kernel_rfl) (by kernel_rfl) (fun _ _ _ h => h) (Or.inl ⟨by rfl, ?_⟩) (by assumption) ?_
          rotate_left
          · intro w hSw; (try dsimp only at hSw); (go_simp <;> with_reducible rfl)
          try simp only [List.getElem_toArray, List.getElem_cons_zero, List.getElem_cons_succ, Act.put, List.setIfInBounds_toArray, List.set_cons_zero, List.set_cons_succ]
          refine wpAnyH_ready (rs := [13]) (by kernel_rfl) (by simp) ?_
          refine AllReadyH.cons rfl (fun K hK => ?_) AllReadyH.nil
          rw [if_pos (by rfl)]
          simp only [List.getElem_toArray, List.getElem_cons_zero, List.getElem_cons_succ]
          refine wp_store_row 171 (.tmp 8) (.tmp 46) rfl wM.heap.size rfl (Tsk.row ⟨t, goCrs t M.hv, false, List.replicate t.w.length false, ⟨⟨ra', t.r.length, rc'⟩, ⟨wa', t.w.length, wc'⟩, ⟨ca', t.c.length, cc'⟩⟩, sd, sw, ss, ⟨some ⟨W.heap.size, 0, none⟩, t.w.length, t.w.length⟩⟩) zeroTask 171 (RA.out.below' bG.out) rfl rfl (by kernel_rfl) (tskRow_oneCell _) ?_
          intro w4 r4 c4 s4
          have k0 := B0.out.size; have kG := bG.out.size; have kM := bM.out.size; have kA := bA.out.size; have sA := SA.out; have sM := SM.out
          have LD := hide (laid_of (W := W) (w3 := wG) (lo := wA.heap.size) (hi := wG.heap.size) TX.out HC.out GL.out.1 GL.out.2 F1.out F2.out F3.out F4.out F5.out F6.out F7.out (by omega) (by omega) (by omega) (by omega) (by omega) (by omega) (by omega) ((RM1.out.below' bA.out).below' bG.out) c4 s4 r4 BG.out)
          clear k0 kG kM kA sA sM
          refine hK.out _ _ (KL.out _ LD.out.below) (fun hHeld => ?_)
          refine wpAnyH_done (by kernel_rfl) ?_ _
          simp only [Act.put]
          exact HM.out _ _ (HJ.out _ _ ⟨_, _, _, _, _, _, _, _, _, _, _, _, _, ⟨_, _, rfl, LD.out, rfl, rfl, rfl, rfl, rfl⟩, rfl⟩)
    · rw [if_pos (by rfl)]
      simp only [List.getElem_toArray, List.getElem_cons_zero, List.getElem_cons_succ]
      refine wp_alloc_row 171 rfl (.agg zeroTask.toArray) zeroTask (by kernel_rfl) rfl ?_
      intro wA rA hba sA
      have bA := hide hba; have RA := hide rA; have SA := hide sA
      have BA := hide (below_on B0.out hba)
      clear rA hba sA
      refine hK.out _ _ (KL.out _ BA.out) (fun hHeld => ?_)
      clear hK K
      try simp only [Act.put, List.setIfInBounds_toArray, List.set_cons_zero, List.set_cons_succ]
      refine wpAnyH_ready (rs := [6, 10]) (by kernel_rfl) (by simp) ?_
      refine AllReadyH.cons rfl (fun K hK => ?_) (AllReadyH.cons rfl (fun K hK => ?_) AllReadyH.nil)
      · rw [if_pos (by rfl)]
        simp only [List.getElem_toArray, List.getElem_cons_zero, List.getElem_cons_succ]
        go_simp
        refine (GO.out _ BA.out).mono ?_
        rintro e wG ⟨sd, sw, ss, rfl, g1, g2, g3, g4, g5, g6, g7, hbg⟩
        have bG := hide hbg; have F1 := hide g1; have F2 := hide g2; have F3 := hide g3; have F4 := hide g4; have F5 := hide g5; have F6 := hide g6; have F7 := hide g7
        have BG := hide (below_on BA.out hbg)
        clear g1 g2 g3 g4 g5 g6 g7 hbg
        refine hK.out _ _ (KL.out _ BG.out) (fun hHeld => ?_)
        clear hK K
        try simp only [List.getElem_toArray, List.getElem_cons_zero, List.getElem_cons_succ, Act.put, List.setIfInBounds_toArray, List.set_cons_zero, List.set_cons_succ]
        refine wpAnyH_ready (rs := [10]) (by kernel_rfl) (by simp) ?_
        refine AllReadyH.cons rfl (fun K hK => ?_) AllReadyH.nil
        · rw [if_pos (by rfl)]
          simp only [List.getElem_toArray, List.getElem_cons_zero, List.getElem_cons_succ]
          refine wp_make_row 60 (.tmp 44) (.tmp 44) rfl .i64 .i64 t.w.length rfl rfl 4 (bools (List.replicate t.w.length false)) (MKR.out _) ?_
          intro wM rM hbm sM
          have bM := hide hbm; have RM1 := hide rM; have SM := hide sM
          have BM := hide (below_on BG.out hbm)
          clear rM hbm sM
          refine hK.out _ _ (KL.out _ BM.out) (fun hHeld => ?_)
          clear hK K
          try simp only [Act.put, List.setIfInBounds_toArray, List.set_cons_zero, List.set_cons_succ]
          refine wpAnyH_take (i := 11) (v := ?_) rfl (by kernel_rfl) (by kernel_rfl) (by kernel_rfl) (fun _ _ _ h => h) (Or.inl ⟨by rfl, ?_⟩) (by assumption) ?_
          rotate_left
          · intro w hSw; (try dsimp only at hSw); (go_simp <;> with_reducible rfl)
          try simp only [List.getElem_toArray, List.getElem_cons_zero, List.getElem_cons_succ, Act.put, List.setIfInBounds_toArray, List.set_cons_zero, List.set_cons_succ]
          refine wpAnyH_ready (rs := [13]) (by kernel_rfl) (by simp) ?_
          refine AllReadyH.cons rfl (fun K hK => ?_) AllReadyH.nil
          rw [if_pos (by rfl)]
          simp only [List.getElem_toArray, List.getElem_cons_zero, List.getElem_cons_succ]
          refine wp_store_row 171 (.tmp 8) (.tmp 46) rfl W.heap.size rfl (Tsk.row ⟨t, goCrs t M.hv, false, List.replicate t.w.length false, ⟨⟨ra', t.r.length, rc'⟩, ⟨wa', t.w.length, wc'⟩, ⟨ca', t.c.length, cc'⟩⟩, sd, sw, ss, ⟨some ⟨wG.heap.size, 0, none⟩, t.w.length, t.w.length⟩⟩) zeroTask 171 ((RA.out.below' bG.out).below' bM.out) rfl rfl (by kernel_rfl) (tskRow_oneCell _) ?_
          intro w4 r4 c4 s4
          have k0 := B0.out.size; have kG := bG.out.size; have kM := bM.out.size; have kA := bA.out.size; have sA := SA.out; have sM := SM.out
          have LD := hide (laid_of (W := W) (w3 := wM) (lo := wA.heap.size) (hi := wG.heap.size) TX.out HC.out GL.out.1 GL.out.2 (F1.out.below bM.out) F2.out (F3.out.below bM.out) F4.out (F5.out.below bM.out) F6.out F7.out (by omega) (by omega) (by omega) (by omega) (by omega) (by omega) (by omega) RM1.out c4 s4 r4 BM.out)
          clear k0 kG kM kA sA sM
          refine hK.out _ _ (KL.out _ LD.out.below) (fun hHeld => ?_)
          refine wpAnyH_done (by kernel_rfl) ?_ _
          simp only [Act.put]
          exact HM.out _ _ (HJ.out _ _ ⟨_, _, _, _, _, _, _, _, _, _, _, _, _, ⟨_, _, rfl, LD.out, rfl, rfl, rfl, rfl, rfl⟩, rfl⟩)
      · rw [if_pos (by rfl)]
        simp only [List.getElem_toArray, List.getElem_cons_zero, List.getElem_cons_succ]
        refine wp_make_row 60 (.tmp 44) (.tmp 44) rfl .i64 .i64 t.w.length rfl rfl 4 (bools (List.replicate t.w.length false)) (MKR.out _) ?_
        intro wM rM hbm sM
        have bM := hide hbm; have RM1 := hide rM; have SM := hide sM
        have BM := hide (below_on BA.out hbm)
        clear rM hbm sM
        refine hK.out _ _ (KL.out _ BM.out) (fun hHeld => ?_)
        clear hK K
        try simp only [Act.put, List.setIfInBounds_toArray, List.set_cons_zero, List.set_cons_succ]
        refine wpAnyH_ready (rs := [6]) (by kernel_rfl) (by simp) ?_
        refine AllReadyH.cons rfl (fun K hK => ?_) AllReadyH.nil
        · rw [if_pos (by rfl)]
          simp only [List.getElem_toArray, List.getElem_cons_zero, List.getElem_cons_succ]
          go_simp
          refine (GO.out _ BM.out).mono ?_
          rintro e wG ⟨sd, sw, ss, rfl, g1, g2, g3, g4, g5, g6, g7, hbg⟩
          have bG := hide hbg; have F1 := hide g1; have F2 := hide g2; have F3 := hide g3; have F4 := hide g4; have F5 := hide g5; have F6 := hide g6; have F7 := hide g7
          have BG := hide (below_on BM.out hbg)
          clear g1 g2 g3 g4 g5 g6 g7 hbg
          refine hK.out _ _ (KL.out _ BG.out) (fun hHeld => ?_)
          clear hK K
          try simp only [List.getElem_toArray, List.getElem_cons_zero, List.getElem_cons_succ, Act.put, List.setIfInBounds_toArray, List.set_cons_zero, List.set_cons_succ]
          refine wpAnyH_take (i := 11) (v := ?_) rfl (by kernel_rfl) (by kernel_rfl) (by kernel_rfl) (fun _ _ _ h => h) (Or.inl ⟨by rfl, ?_⟩) (by assumption) ?_
          rotate_left
          · intro w hSw; (try dsimp only at hSw); (go_simp <;> with_reducible rfl)
          try simp only [List.getElem_toArray, List.getElem_cons_zero, List.getElem_cons_succ, Act.put, List.setIfInBounds_toArray, List.set_cons_zero, List.set_cons_succ]
          refine wpAnyH_ready (rs := [13]) (by kernel_rfl) (by simp) ?_
          refine AllReadyH.cons rfl (fun K hK => ?_) AllReadyH.nil
          rw [if_pos (by rfl)]
          simp only [List.getElem_toArray, List.getElem_cons_zero, List.getElem_cons_succ]
          refine wp_store_row 171 (.tmp 8) (.tmp 46) rfl W.heap.size rfl (Tsk.row ⟨t, goCrs t M.hv, false, List.replicate t.w.length false, ⟨⟨ra', t.r.length, rc'⟩, ⟨wa', t.w.length, wc'⟩, ⟨ca', t.c.length, cc'⟩⟩, sd, sw, ss, ⟨some ⟨wA.heap.size, 0, none⟩, t.w.length, t.w.length⟩⟩) zeroTask 171 ((RA.out.below' bM.out).below' bG.out) rfl rfl (by kernel_rfl) (tskRow_oneCell _) ?_
          intro w4 r4 c4 s4
          have k0 := B0.out.size; have kG := bG.out.size; have kM := bM.out.size; have kA := bA.out.size; have sA := SA.out; have sM := SM.out
          have LD := hide (laid_of (W := W) (w3 := wG) (lo := wM.heap.size) (hi := wG.heap.size) TX.out HC.out GL.out.1 GL.out.2 F1.out F2.out F3.out F4.out F5.out F6.out F7.out (by omega) (by omega) (by omega) (by omega) (by omega) (by omega) (by omega) (RM1.out.below' bG.out) c4 s4 r4 BG.out)
          clear k0 kG kM kA sA sM
          refine hK.out _ _ (KL.out _ LD.out.below) (fun hHeld => ?_)
          refine wpAnyH_done (by kernel_rfl) ?_ _
          simp only [Act.put]
          exact HM.out _ _ (HJ.out _ _ ⟨_, _, _, _, _, _, _, _, _, _, _, _, _, ⟨_, _, rfl, LD.out, rfl, rfl, rfl, rfl, rfl⟩, rfl⟩)
  case rest =>
    obtain ⟨g, T, rfl, LDr, e1, e2, e3, e4, e5⟩ := hcut
    rename World => X
    have LD := hide LDr
    have HRX := hide (HRW.out.below LDr.below)
    have TXX := hide (TX.out X LDr.below)
    have hwsn : T.wsS.n = t.w.length := by rw [LDr.tsk.wsn, LDr.tsk.wsl, e1]
    have hws : SlotsAt X T.wsS.a (goCrs t M.hv).ws := by rw [← e2]; exact LDr.tsk.ws
    have hwsl := GL.out.1
    have HB2 : Hid (∀ k ∈ TH.blks ⟨⟨ra', t.r.length, rc'⟩, ⟨wa', t.w.length, wc'⟩, ⟨ca', t.c.length, cc'⟩⟩, w.heap.size ≤ k ∧ k < cB) := hide (fun k hk => ⟨Nat.le_trans SZ1.out (HB.out k hk), LT.out k hk⟩)
    have hwc : w.heap.size ≤ cB := by have := HCB.out; have := B2.out.size; omega
    obtain ⟨gh, hgh, _⟩ := HRX.out.hv.cell (i := 0) (slotCells_get M.hv 0 (by rw [HRX.out.hvl]; omega)).1
    have hghm : gh ∈ M.mut := by simp [RM.mut, Sl.blk, hgh]
    have hghw : gh < w.heap.size := HR.out.mut_lt gh hghm
    have hghb : M.b ≠ gh := fun e => HR.out.b_apart gh (by simp [Sl.blk, hgh]) e.symm
    have hgg : gh < g := by have := LDr.g0; have := SZ.out; omega
    have x4 := HRX.out.row.cell' (i := 4) (v := .slice M.hvS.a M.hvS.n M.hvS.c) rfl
    rw [hgh, HRX.out.hvn] at x4
    have CX := hide (CB.out.below' LDr.below)
    have x1 := CX.out.cell' (i := 1) rfl
    have g6 := LDr.row.cell' (i := 6) (v := .slice T.wsS.a T.wsS.n T.wsS.c) rfl
    rw [hwsn] at g6
    have HWS := hide hws
    have hkw' := hide hkw
    have HV24 := hide (fun k => (putTo_len M.hv t.w (goCrs t M.hv).ws k).trans HRX.out.hvl)
    have hOwn0 := hide HRX.out.hv
    have hwb : ∀ a, T.wsS.a = some a → a.block ≠ gh := fun a ha => by have := LDr.imm0 a.block (by simp [mem_blk ha]); have := SZ.out; omega
    have hwab : ∀ a, wa' = some a → a.block ≠ gh := fun a ha => by have := HB2.out a.block (by simp [TH.blks, Sl.blk, ha]); omega
    have HWB := hide hwb; have HWA := hide hwab
    clear LDr KL GO MKR GL TX c4 p0 p1 p2 HRW hws hkr hkw hsnd hwb hwab OT hf HF hr hul hf' HC
    go_wp2
    go_loopw [9] (fun tt wr => ∃ k : Nat, k ≤ t.w.length ∧ tt = .int .i64 k ∧ Own wr 172 2 M.hvS (slotCells (putTo M.hv t.w (goCrs t M.hv).ws k)) ∧ Chg X wr (· = gh)) (fun tt _ => t.w.length - (intOf tt).toNat)
    case atStart => exact ⟨0, Nat.zero_le _, rfl, hOwn0.out, Chg.refl _ _⟩
    case round =>
      obtain ⟨k, hk, rfl, hown, hch⟩ := hrel
      have r4 := cell_chg hch x4 hghb
      have r1 := cell_chg hch x1 (by show ¬ cB = gh; omega)
      have r6' := cell_chg hch g6 (by show ¬ g = gh; omega)
      by_cases hlt : k < t.w.length
      · obtain ⟨b1, o1, hwa, hc1, _⟩ := (TXX.out.wi.chg hch HWA.out).at hlt
        replace hc1 := hc1 k hlt
        simp only at hwa
        obtain ⟨n, hn⟩ : ∃ n : Nat, t.w.getD k 0 = n := ⟨_, (Int.toNat_of_nonneg (hkw'.out (t.w.getD k 0) (by simp [List.getD, hlt])).1).symm⟩
        have hn24 : n < 24 := by have := hkw'.out (t.w.getD k 0) (by simp [List.getD, hlt]); omega
        obtain ⟨b2, o2, hsa, hc2, _⟩ := (HWS.out.chg hch HWB.out).at (k := k) (by omega)
        obtain ⟨s0, s1⟩ := hc2 k (by omega)
        have hset : putTo M.hv t.w (goCrs t M.hv).ws (k + 1) = (putTo M.hv t.w (goCrs t M.hv).ws k).set n ((goCrs t M.hv).ws.getD k Slot.none) := by simp only [putTo, hn, Int.toNat_natCast]
        obtain ⟨q0, q1⟩ := slotCells_get (putTo M.hv t.w (goCrs t M.hv).ws k) n (by rw [HV24.out]; exact hn24)
        obtain ⟨gh2, hgh2, q0'⟩ := hown.cell q0
        rw [show gh2 = gh by rw [hgh] at hgh2; simpa using hgh2.symm] at q0'
        obtain ⟨gh3, hgh3, q1'⟩ := hown.cell q1
        rw [show gh3 = gh by rw [hgh] at hgh3; simpa using hgh3.symm] at q1'
        have f0 := hown.frozen hgh (n * 2)
        have f1 := hown.frozen hgh (n * 2 + 1)
        have HG := hide (hown.setSlot hgh (n := n) (by rw [HV24.out]; exact hn24) ((goCrs t M.hv).ws.getD k Slot.none))
        rw [← hset] at HG
        generalize (goCrs t M.hv).ws.getD k Slot.none = sl at *
        obtain ⟨sv, sth⟩ := sl
        simp only at s0 s1 HG
        rw [hn] at hc1
        rw [hwa] at r1
        rw [hsa] at r6'
        have hghl : gh < wr.heap.size := lt_of_cell q0'
        have h1n : b1 ≠ gh := HWA.out _ hwa
        have h2n : b2 ≠ gh := HWB.out _ hsa
        have KS : Hid (∀ w', Chg wr w' (· = gh) → (w'.cell? ⟨M.b, 4, none⟩ = some (.slice (some ⟨gh, 0, none⟩) 24 M.hvS.c) ∧ w'.cell? ⟨cB, 1, none⟩ = some (.slice (some ⟨b1, o1, none⟩) t.w.length wc') ∧ w'.cell? ⟨b1, o1 + k, none⟩ = some (.int .i64 n) ∧ w'.cell? ⟨g, 6, none⟩ = some (.slice (some ⟨b2, o2, none⟩) t.w.length T.wsS.c) ∧ w'.cell? ⟨b2, o2 + k * 2, none⟩ = some (.int .i64 sv) ∧ w'.cell? ⟨b2, o2 + k * 2 + 1, none⟩ = some (.bool sth))) := hide (fun w' hC =>
          ⟨cell_chg hC r4 hghb, cell_chg hC r1 (by show ¬ cB = gh; omega), cell_chg hC hc1 h1n, cell_chg hC r6' (by show ¬ g = gh; omega), cell_chg hC s0 h2n, cell_chg hC s1 h2n⟩)
        clear hwa hsa hwsn q0 q1 hgh2 hgh3 hset hc2 HR HRX HB HB2 LT HX HWA HWB HWS TXX CX CB BW B2 SZ SZ1 hOwn0 HV24 hkw' x1 x4 g6 LD hown e1 e2 e3 e4 e5 hm
        go_wp2
        go_region_held (fun w' => w'.cell? ⟨M.b, 4, none⟩ = some (.slice (some ⟨gh, 0, none⟩) 24 M.hvS.c) ∧ w'.cell? ⟨cB, 1, none⟩ = some (.slice (some ⟨b1, o1, none⟩) t.w.length wc') ∧ w'.cell? ⟨b1, o1 + k, none⟩ = some (.int .i64 n) ∧ w'.cell? ⟨g, 6, none⟩ = some (.slice (some ⟨b2, o2, none⟩) t.w.length T.wsS.c) ∧ w'.cell? ⟨b2, o2 + k * 2, none⟩ = some (.int .i64 sv) ∧ w'.cell? ⟨b2, o2 + k * 2 + 1, none⟩ = some (.bool sth))
          (first | exact KS.out _ (Chg.refl _ _).drew | exact KS.out _ (Chg.drew (Chg.put (Chg.put (Chg.refl wr (· = gh)) ⟨gh, n * 2, none⟩ _ rfl) ⟨gh, n * 2 + 1, none⟩ _ rfl))) (fail)
        go_wp2
        go_roundw
        case rel => exact ⟨k + 1, by omega, by go_num, HG.out, hch.trans (Chg.drew (Chg.put (Chg.put (Chg.refl wr (· = gh)) ⟨gh, n * 2, none⟩ _ rfl) ⟨gh, n * 2 + 1, none⟩ _ rfl))⟩
        case measure => simp [intOf]; omega
      · have hkk : k = t.w.length := by omega
        subst hkk
        obtain ⟨j0, gi, gz0, gz1, gz2⟩ := info_parts Tryz.info171
        have OH := hide hown
        have HCH := hide hch
        have hNB : M.b ∉ M.tkS.blk := fun hk => HR.out.b_apart M.b (by simp [hk]) rfl
        have hd2 := nodup_disj (A := [M.b] ++ M.tkS.blk) (E := M.hvS.blk) (B := M.enS.blk ++ (M.deS.blk ++ (M.haS.blk ++ (M.diS.blk ++ M.tasks.flatMap fun t => t.goneS.blk)))) (by have := HR.out.nodup; rw [RM.mut] at this; simpa using this)
        have RT := hide (LD.out.row.chg hch (by show ¬ g = gh; omega))
        have RB := hide (HRX.out.row.chg hch hghb)
        have TK := hide (HRX.out.tk.chg hch (fun k hk e => hd2.1 k (by simp [hk]) (by simp [Sl.blk, hgh, show k = gh from e])))
        have NB := hide hNB
        have r3 := RB.out.cell' (i := 3) (v := .slice M.tkS.a M.tkS.n M.tkS.c) rfl
        have MM := hide (show M.tkS.n + 1 ≤ maxLen by rw [HR.out.tkn]; unfold maxLen; omega)
        have QQ := hide (show (M.tkS.n + 1) * 192 ≤ 140737488355328 by rw [HR.out.tkn]; omega)
        have y0 := RT.out.cell' (i := 0) rfl
        have y1 := RT.out.cell' (i := 1) rfl
        have y2 := RT.out.cell' (i := 2) rfl
        have y3 := RT.out.cell' (i := 3) rfl
        have y4 := RT.out.cell' (i := 4) rfl
        have y5 := RT.out.cell' (i := 5) rfl
        have y6 := RT.out.cell' (i := 6) rfl
        have y7 := RT.out.cell' (i := 7) rfl
        have y8 := RT.out.cell' (i := 8) rfl
        have y9 := RT.out.cell' (i := 9) rfl
        have hbl := RB.out.lt
        have hgl := RT.out.lt
        have P1 := hide (rowAt_alloc wr T.row 171)
        have HE := hide (And.intro e1 (And.intro e2 (And.intro e3 (And.intro e4 e5))))
        clear hwsn e1 e2 e3 e4 e5
        clear hown hch hNB hd2 r4 r6' x4 x1 g6 HWS HWB HWA hkw' hOwn0 CX CB hlt hk HX TXX
        go_wp2
        go_region_law (go_must (refine step_append_sl rfl (.tmp 74) (.tmp 76) 39 rfl 171 j0 (.agg zeroTask.toArray) 10 192 Tryz.underlying39 gi gz0 gz1 gz2 rfl (by decide) M.tkS (M.tasks.flatMap Tsk.row) rfl (TK.out.below (by first | exact (below_alloc1 _ _).drew | exact (Below.refl _ _).drew.alloc (Nat.le_refl _) _)) (some ⟨wr.heap.size, 0, none⟩) 1 1 T.row rfl rfl (by simp) (fun ad had j u hu => by cases had; rw [addr_add, Nat.zero_add]; first | exact (P1.out.drew).cell' hu | exact P1.out.cell' hu) (tskRow_oneCell T) MM.out QQ.out ?_; intro s1 w1 ow1 sn1 ch1 bl1; have OW := hide ow1; have SN := hide sn1; have CH := hide ch1; have BL := hide bl1; have f5 := ((by first | exact ((RB.out.alloc _).drew.chg ch1 NB.out) | exact ((RB.out.drew.alloc _).chg ch1 NB.out) : RowAt w1 M.b 42 M.row)); have g3 := f5.cell' (i := 3) rfl; have gf := f5.frozen 3; clear ow1 sn1 ch1 bl1 f5))
        all_goals
          obtain ⟨q1, q2, q3⟩ := refAt_sub (sv := .slice s1.a s1.n s1.c) HR.out BW.out LD.out HCH.out hgh OH.out (HV24.out _) (by first | exact (below_alloc1 _ _).drew | exact (Below.refl _ _).drew.alloc (Nat.le_refl _) _) OW.out SN.out CH.out BL.out (by rw [HE.out.2.2.2.2]; exact HB2.out) (by have := SZ.out; omega) hm rfl
          have RR := hide q1; have CC := hide q2; have FF := hide q3
          have hsn : s1.n = M.tasks.length + 1 := by rw [SN.out, HR.out.tkn]
          have hcl := HR.out.closed_le
          have c3 : (w1.setCell ⟨M.b, 3, none⟩ (.slice s1.a s1.n s1.c)).cell? ⟨M.b, 3, none⟩ = some (.slice s1.a s1.n s1.c) := q1.row.cell' (i := 3) rfl
          have c5 : (w1.setCell ⟨M.b, 3, none⟩ (.slice s1.a s1.n s1.c)).cell? ⟨M.b, 5, none⟩ = some (.slice M.enS.a M.enS.n M.enS.c) := q1.row.cell' (i := 5) rfl
          have cf5 : (w1.setCell ⟨M.b, 3, none⟩ (.slice s1.a s1.n s1.c)).frozen? ⟨M.b, 5, none⟩ = false := q1.row.frozen 5
          have CL : Hid (∀ n, Calls Tryz.prog 74 #[.pointer (some ⟨M.b, 0, none⟩)] ((w1.setCell ⟨M.b, 3, none⟩ (.slice s1.a s1.n s1.c)).drewN n) fun e w' => e = .returned (.int .i64 M.closed) ∧ ∃ m, w' = ((w1.setCell ⟨M.b, 3, none⟩ (.slice s1.a s1.n s1.c)).drewN n).drewN m) := hide (fun n => rclosed_any (M.withTask T _ s1) _ (RR.out.drewN n))
          have RC := hide (q1.row.lt : M.b < _)
          clear q1 q2 q3 OW SN CH BL g3 gf y0 y1 y2 y3 y4 y5 y6 y7 y8 y9 RT RB TK NB MM QQ P1 OH HCH HV24 HB2 LD HRX BW B2 SZ SZ1 HB LT HCB r1 r3
          generalize w1.setCell ⟨M.b, 3, none⟩ (.slice s1.a s1.n s1.c) = wF at *
          rw [hsn] at c3
          clear hsn
          go_wp2_with fail
          refine (CL.out 0).mono ?_
          rintro e w5 ⟨rfl, m5, rfl⟩
          have R5 := hide ((RR.out.drewN 0).drewN m5)
          have C5 := hide (Chg.trans CC.out ((Chg.drewN wF 0 _).trans (Chg.drewN (wF.drewN 0) m5 _)))
          have d5 : ((wF.drewN 0).drewN m5).cell? ⟨M.b, 5, none⟩ = some (.slice M.enS.a M.enS.n M.enS.c) := c5
          have df5 : ((wF.drewN 0).drewN m5).frozen? ⟨M.b, 5, none⟩ = false := cf5
          clear c3 c5 cf5 RR CC CL RC
          generalize (wF.drewN 0).drewN m5 = W5 at *
          have hclo := hcl.1
          have HCL := hide hcl
          clear hcl
          generalize hCe : M.closed = C at *
          by_cases h6 : M.tasks.length + 1 - C = 6
          · have h6' : (M.tasks.length : Int) + 1 - (C : Int) = 6 := by omega
            have MM := hide (show M.enS.n + 1 ≤ maxLen by rw [HR.out.enn]; have := HR.out.ends1; unfold maxLen; omega)
            have QQ := hide (show (M.enS.n + 1) * 8 ≤ 140737488355328 by rw [HR.out.enn]; have := HR.out.ends1; omega)
            have P1 := hide (rowAt_alloc W5 [.int .i64 ((M.tasks.length : Int) + 1)] 3)
            have EN := hide (R5.out.en.below (below_alloc1 W5 (.cells #[.int .i64 ((M.tasks.length : Int) + 1)] 3)))
            have NE := hide (fun hk => HR.out.b_apart M.b (by simp only [List.mem_append]; exact Or.inr (Or.inr (Or.inl hk))) rfl : M.b ∉ M.enS.blk)
            have RB := hide (R5.out.row.alloc (.cells #[.int .i64 ((M.tasks.length : Int) + 1)] 3))
            go_wp2_with (first
              | (at_builtin; refine wpList_append_sl rfl (.tmp 94) (.tmp 96) 30 rfl 3 i0 (.int .i64 0) 1 8 Tryz.underlying30 hi hz0 hz1 hz2 rfl (by decide) M.enS (ints (nats M.ends)) rfl EN.out (some ⟨W5.heap.size, 0, none⟩) 1 1 [.int .i64 ((M.tasks.length : Int) + 1)] rfl rfl (by simp) (fun ad had j u hu => by cases had; rw [addr_add, Nat.zero_add]; exact P1.out.cell' hu) (by simp [Value.oneCell']) MM.out QQ.out ?_; intro s2 w6 ow6 sn6 ch6 bl6; have OW := hide ow6; have SN := hide sn6; have CH := hide ch6; have BL := hide bl6; have f5 := ((RB.out.chg ch6 NE.out) : RowAt w6 M.b 42 _); have g5 : w6.cell? ⟨M.b, 5, none⟩ = some (.slice M.enS.a M.enS.n M.enS.c) := f5.cell' (i := 5) rfl; have gf : w6.frozen? ⟨M.b, 5, none⟩ = false := f5.frozen 5; clear ow6 sn6 ch6 bl6 f5))
            go_ret2
            have hch5 : Chg W5 w6 (fun k => k ∈ M.enS.blk) := (Chg.of_below (below_alloc1 W5 (.cells #[.int .i64 ((M.tasks.length : Int) + 1)] 3)) _).trans CH.out
            have hwe : Chg W5 (w6.setCell ⟨M.b, 5, none⟩ (.slice s2.a s2.n s2.c)) (fun k => k ∈ M.mut) := (hch5.mono (fun k _ hk => mem_mut_en hk)).put ⟨M.b, 5, none⟩ _ (by simp [RM.mut])
            obtain ⟨v1, v2, v3⟩ := refAt_withEnd (M := M.withTask T (putTo M.hv t.w (goCrs t M.hv).ws t.w.length) s1) (s := s2) (sv := .slice s2.a s2.n s2.c) R5.out (by have := HR.out.ends1; simp [RM.withTask]; omega) (by have := OW.out; simpa [RM.withTask] using this) SN.out hch5 (fun k hk => (BL.out k hk).imp id (fun h => by rw [h]; simp)) rfl
            exact ⟨T, s1, _, by simp, v1, HE.out.1, HE.out.2.1, HE.out.2.2.1, HE.out.2.2.2.1, fun _ => ⟨s2, rfl⟩, fun h => absurd (by rw [hCe]; exact h6) h, C5.out.trans hwe, fun k hk => (v3 k hk).elim (fun h => FF.out k h) (fun h => Or.inr (Nat.le_trans C5.out.size h))⟩
          · have h6' : ¬ (M.tasks.length : Int) + 1 - (C : Int) = 6 := by omega
            go_wp2
            go_ret2
            exact ⟨T, s1, _, by simp, R5.out, HE.out.1, HE.out.2.1, HE.out.2.2.1, HE.out.2.2.2.1, fun h => absurd (by rw [hCe] at h; exact h) h6, fun _ => rfl, C5.out, FF.out⟩

end Go.Proofs.YtlheloogmgmjnaaGreat
