import Derived.Test.YtlheloogmgmjnaaGreatProgClose
namespace Go.Proofs.YtlheloogmgmjnaaGreat
open Go.RowKit

def zeroRec : List Value := [.slice none 0 0, .slice none 0 0, .slice none 0 0, .bool false, .bool false, .int .i64 0]
theorem Tryz.info158 : (Tryz.prog.info? 158).map (fun i => (i.zero, i.size, i.bytes)) = some (some (.agg zeroRec.toArray), 6, 96) := by kernel_rfl
theorem Tryz.underlying92 : Tryz.prog.underlying 92 = some (.slice 158) := by kernel_rfl
theorem recRow_oneCell (r : PRec) : ∀ v ∈ r.row, v.oneCell' = true := by
  intro v hv
  simp only [PRec.row, List.mem_cons, List.not_mem_nil, or_false] at hv
  rcases hv with h | h | h | h | h | h <;> subst h <;> rfl

theorem Chg.trans' {w w' w'' : World} {D E : Nat → Prop} (h : Chg w w' D) (k : Chg w' w'' E) (hd : ∀ i, i < w.heap.size → E i → D i) : Chg w w'' D :=
  ⟨k.os.trans h.os, k.tape.trans h.tape, k.output.trans h.output, Nat.le_trans h.size k.size, fun i hi hD => (k.block i (Nat.lt_of_lt_of_le hi h.size) (fun he => hD (hd i hi he))).trans (h.block i hi hD)⟩

theorem mut_withRec {w : World} {M : PM} {r : PRec} {s : Sl} (_h : PAt w M) (hb : ∀ k ∈ s.blk, k ∈ M.rcS.blk ∨ w.heap.size ≤ k) : ∀ i, i < w.heap.size → i ∈ (M.withRec r s).mut → i ∈ M.mut := by
  intro i hi hk
  simp only [PM.mut, PM.withRec, List.mem_cons, List.mem_append] at hk ⊢
  rcases hk with h1 | h1 | h1
  · exact Or.inl h1
  · rcases hb i h1 with h2 | h2
    · exact Or.inr (Or.inl h2)
    · omega
  · exact Or.inr (Or.inr h1)

theorem PM.closed_withRec (M : PM) (r : PRec) (s : Sl) : (M.withRec r s).closed = M.closed := rfl

set_option maxHeartbeats 4000000 in
set_option maxRecDepth 100000 in
theorem iAdd_any (M : PM) (w : World) (h : PAt w M) (hd : TH) (t : Tx) (hx : TxAt w hd t) (hn : hd.nilOk) (hm : M.recs.length < 150) :
    Calls Tryz.prog 67 #[.pointer (some ⟨M.b, 2, none⟩), .agg hd.cells] w fun e w' => ∃ (r : PRec) (s : Sl) (M' : PM), e = .returned (.int .i64 (M.recs.length + 1 : Nat)) ∧ PAt w' M' ∧
      (M.recs.length + 1 - M.closed = 6 → ∃ s2, M' = (M.withRec r s).withEnd s2) ∧ (¬ M.recs.length + 1 - M.closed = 6 → M' = M.withRec r s) ∧ Chg w w' (fun k => k ∈ M.mut) ∧ (∀ k ∈ M'.foot, k ∈ M.foot ∨ w.heap.size ≤ k) := by
  obtain ⟨j0, gi, gz0, gz1, gz2⟩ := info_parts Tryz.info158
  have CO := hide (fun wx (hb : Below w.heap.size w wx) => icopyOf_any hd t wx (hx.below hb) hn)
  obtain ⟨⟨ra, rn, rc⟩, ⟨wa, wn, wc⟩, ⟨ca, cn, cc⟩⟩ := hd
  simp only [TH.cells] at CO
  show Calls Tryz.prog 67 #[.pointer (some ⟨M.b, 2, none⟩), .agg #[.slice ra rn rc, .slice wa wn wc, .slice ca cn cc]] w _
  have HR := hide h
  have hbl := h.row.lt
  have MM := hide (show M.rcS.n + 1 ≤ maxLen by rw [h.rcn]; unfold maxLen; omega)
  have QQ := hide (show (M.rcS.n + 1) * 96 ≤ 140737488355328 by rw [h.rcn]; omega)
  have NB := hide (fun hk => by have := h.nodup; rw [PM.mut, List.nodup_cons] at this; exact this.1 (by simp [hk]) : M.b ∉ M.rcS.blk)
  have RL := hide h.rc.blk_lt
  have A0 := hide (rowAt_alloc w [.slice ra rn rc, .slice wa wn wc, .slice ca cn cc] 33)
  have B0 := hide (below_alloc1 w (.cells #[.slice ra rn rc, .slice wa wn wc, .slice ca cn cc] 33))
  clear h hx hn
  go_enter Tryz.func67, Tryz.ntmps67
  go_wp2
  change Hid (RowAt (w.alloc (.cells #[.slice ra rn rc, .slice wa wn wc, .slice ca cn cc] 33)) w.heap.size 33 [.slice ra rn rc, .slice wa wn wc, .slice ca cn cc]) at A0
  generalize w.alloc (.cells #[.slice ra rn rc, .slice wa wn wc, .slice ca cn cc] 33) = W at *
  have HW := hide (HR.out.below B0.out)
  have KL : Hid (∀ w', Below W.heap.size W w' → (w'.cell? ⟨M.b, 2, none⟩ = some (.slice M.rcS.a M.rcS.n M.rcS.c) ∧ w'.cell? ⟨w.heap.size, 0, none⟩ = some (.slice ra rn rc) ∧ w'.cell? ⟨w.heap.size, 1, none⟩ = some (.slice wa wn wc) ∧ w'.cell? ⟨w.heap.size, 2, none⟩ = some (.slice ca cn cc))) := hide (fun w' hB =>
    ⟨(HW.out.row.below' hB).cell' (i := 2) rfl, (A0.out.below' hB).cell' (i := 0) rfl, (A0.out.below' hB).cell' (i := 1) rfl, (A0.out.below' hB).cell' (i := 2) rfl⟩)
  have hnw : Hid (w.heap.size ∉ M.rcS.blk) := hide (fun hk => by have := RL.out _ hk; omega)
  have KS : Hid (∀ wy w', Below W.heap.size W wy → Chg wy w' (fun k => k ∈ M.rcS.blk) → (w'.cell? ⟨M.b, 2, none⟩ = some (.slice M.rcS.a M.rcS.n M.rcS.c) ∧ w'.cell? ⟨w.heap.size, 0, none⟩ = some (.slice ra rn rc) ∧ w'.cell? ⟨w.heap.size, 1, none⟩ = some (.slice wa wn wc) ∧ w'.cell? ⟨w.heap.size, 2, none⟩ = some (.slice ca cn cc))) := hide (fun wy w' hB hC =>
    ⟨cell_chg hC (KL.out _ hB).1 NB.out, cell_chg hC (KL.out _ hB).2.1 hnw.out, cell_chg hC (KL.out _ hB).2.2.1 hnw.out, cell_chg hC (KL.out _ hB).2.2.2 hnw.out⟩)
  refine wp_region_L (L := #[true, true, true, true, true, true, true, true, true, true, false, false, false]) (S := (fun w' => w'.cell? ⟨M.b, 2, none⟩ = some (.slice M.rcS.a M.rcS.n M.rcS.c) ∧ w'.cell? ⟨w.heap.size, 0, none⟩ = some (.slice ra rn rc) ∧ w'.cell? ⟨w.heap.size, 1, none⟩ = some (.slice wa wn wc) ∧ w'.cell? ⟨w.heap.size, 2, none⟩ = some (.slice ca cn cc))) (by kernel_rfl) ?_
  have D0 : Hid (Below W.heap.size W W.drew) := hide (Below.refl _ _).drew
  have hHeld := KL.out _ D0.out
  refine wpL_take (i := 0) (v := ?_) rfl (by kernel_rfl) (by kernel_rfl) (by kernel_rfl) (by kernel_rfl) (fun _ _ _ h => h) (by rfl) ?_ (by assumption) ?_
  rotate_left
  · intro w hSw; (try dsimp only at hSw); (go_simp <;> with_reducible rfl)
  try simp only [List.getElem_toArray, List.getElem_cons_zero, Act.put, List.setIfInBounds_toArray, List.set_cons_zero, List.set_cons_succ]
  refine wpL_take (i := 1) (v := ?_) rfl (by kernel_rfl) (by kernel_rfl) (by kernel_rfl) (by kernel_rfl) (fun _ _ _ h => h) (by rfl) ?_ (by assumption) ?_
  rotate_left
  · intro w hSw; (try dsimp only at hSw); (go_simp <;> with_reducible rfl)
  try simp only [List.getElem_toArray, List.getElem_cons_zero, List.getElem_cons_succ, Act.put, List.setIfInBounds_toArray, List.set_cons_zero, List.set_cons_succ]
  refine wpL_take (i := 2) (v := ?_) rfl (by kernel_rfl) (by kernel_rfl) (by kernel_rfl) (by kernel_rfl) (fun _ _ _ h => h) (by rfl) ?_ (by assumption) ?_
  rotate_left
  · intro w hSw; (try dsimp only at hSw); (go_simp <;> with_reducible rfl)
  try simp only [List.getElem_toArray, List.getElem_cons_zero, List.getElem_cons_succ, Act.put, List.setIfInBounds_toArray, List.set_cons_zero, List.set_cons_succ]
  refine wpL_take (i := 3) (v := ?_) rfl (by kernel_rfl) (by kernel_rfl) (by kernel_rfl) (by kernel_rfl) (fun _ _ _ h => h) (by rfl) ?_ (by assumption) ?_
  rotate_left
  · intro w hSw; (try dsimp only at hSw); (go_simp <;> with_reducible rfl)
  try simp only [List.getElem_toArray, List.getElem_cons_zero, List.getElem_cons_succ, Act.put, List.setIfInBounds_toArray, List.set_cons_zero, List.set_cons_succ]
  refine wpL_take (i := 4) (v := ?_) rfl (by kernel_rfl) (by kernel_rfl) (by kernel_rfl) (by kernel_rfl) (fun _ _ _ h => h) (by rfl) ?_ (by assumption) ?_
  rotate_left
  · intro w hSw; (try dsimp only at hSw); (go_simp <;> with_reducible rfl)
  try simp only [List.getElem_toArray, List.getElem_cons_zero, List.getElem_cons_succ, Act.put, List.setIfInBounds_toArray, List.set_cons_zero, List.set_cons_succ]
  refine wpL_take (i := 5) (v := ?_) rfl (by kernel_rfl) (by kernel_rfl) (by kernel_rfl) (by kernel_rfl) (fun _ _ _ h => h) (by rfl) ?_ (by assumption) ?_
  rotate_left
  · intro w hSw; (try dsimp only at hSw); (go_simp <;> with_reducible rfl)
  try simp only [List.getElem_toArray, List.getElem_cons_zero, List.getElem_cons_succ, Act.put, List.setIfInBounds_toArray, List.set_cons_zero, List.set_cons_succ]
  refine wpL_one (n := 6) (by kernel_rfl) rfl (by rfl) (fun K hK => ?_)
  clear hHeld
  simp only [List.getElem_toArray, List.getElem_cons_zero, List.getElem_cons_succ]
  go_simp
  refine (CO.out _ (below_on B0.out D0.out)).mono ?_
  rintro e v6 ⟨h', rfl, _, _, hb6⟩
  have D6 := hide (below_on D0.out hb6)
  have hHeld := KL.out _ D6.out
  obtain ⟨⟨ra', rn', rc'⟩, ⟨wa', wn', wc'⟩, ⟨ca', cn', cc'⟩⟩ := h'
  simp only
  refine hK.out _ _ hHeld ?_
  clear hK K hb6 CO
  try simp only [List.getElem_toArray, List.getElem_cons_zero, List.getElem_cons_succ, Act.put, List.setIfInBounds_toArray, List.set_cons_zero, List.set_cons_succ]
  refine wpL_take (i := 7) (v := ?_) rfl (by kernel_rfl) (by kernel_rfl) (by kernel_rfl) (by kernel_rfl) (fun _ _ _ h => h) (by rfl) ?_ (by assumption) ?_
  rotate_left
  · intro w hSw; (try dsimp only at hSw); (go_simp <;> with_reducible rfl)
  try simp only [List.getElem_toArray, List.getElem_cons_zero, List.getElem_cons_succ, Act.put, List.setIfInBounds_toArray, List.set_cons_zero, List.set_cons_succ]
  refine wpL_one (n := 8) (by kernel_rfl) rfl (by rfl) (fun K hK => ?_)
  clear hHeld
  simp only [List.getElem_toArray, List.getElem_cons_zero, List.getElem_cons_succ]
  go_simp
  have P8 := hide (rowAt_alloc v6 (PRec.row ⟨⟨⟨ra', rn', rc'⟩, ⟨wa', wn', wc'⟩, ⟨ca', cn', cc'⟩⟩, false, false, 0⟩) 158)
  have D8 := hide (below_on D6.out (below_alloc1 v6 (.cells (PRec.row ⟨⟨⟨ra', rn', rc'⟩, ⟨wa', wn', wc'⟩, ⟨ca', cn', cc'⟩⟩, false, false, 0⟩).toArray 158)))
  have hHeld := KL.out _ D8.out
  refine hK.out _ _ hHeld ?_
  clear hK K
  try simp only [List.getElem_toArray, List.getElem_cons_zero, List.getElem_cons_succ, Act.put, List.setIfInBounds_toArray, List.set_cons_zero, List.set_cons_succ]
  refine wpL_one (n := 9) (by kernel_rfl) rfl (by rfl) (fun K hK => ?_)
  clear hHeld
  simp only [List.getElem_toArray, List.getElem_cons_zero, List.getElem_cons_succ]
  refine wp_append_sl (.tmp 9) (.tmp 13) 92 rfl 158 j0 (.agg zeroRec.toArray) 6 96 Tryz.underlying92 gi gz0 gz1 gz2 rfl (by decide) M.rcS (M.recs.flatMap PRec.row) rfl (HW.out.rc.below D8.out) (some ⟨v6.heap.size, 0, none⟩) 1 1 (PRec.row ⟨⟨⟨ra', rn', rc'⟩, ⟨wa', wn', wc'⟩, ⟨ca', cn', cc'⟩⟩, false, false, 0⟩) rfl rfl (by simp) (fun ad had j u hu => by cases had; rw [addr_add, Nat.zero_add]; exact P8.out.cell' hu) (recRow_oneCell _) MM.out QQ.out ?_
  intro s1 w1 ow1 sn1 ch1 bl1
  have OW := hide ow1; have SN := hide sn1; have CH := hide ch1; have BL := hide bl1
  have f2 := (HW.out.row.below' D8.out).chg ch1 NB.out
  have hHeld := KS.out _ _ D8.out ch1
  refine hK.out _ _ hHeld ?_
  clear hK K ow1 sn1 ch1 bl1
  try simp only [Act.put, List.setIfInBounds_toArray, List.set_cons_zero, List.set_cons_succ]
  refine wpL_leaf _ (by kernel_rfl) ?_
  refine wpAny_one (n := 10) (by kernel_rfl) rfl (by rfl) (fun K hK => ?_)
  simp only [List.getElem_toArray, List.getElem_cons_zero, List.getElem_cons_succ]
  go_simp
  refine hK.out _ _ ?_
  clear hK K
  try simp only [List.setIfInBounds_toArray, List.set_cons_zero, List.set_cons_succ]
  refine wpAny_one (n := 11) (by kernel_rfl) rfl (by rfl) (fun K hK => ?_)
  simp only [List.getElem_toArray, List.getElem_cons_zero, List.getElem_cons_succ]
  go_simp
  refine hK.out _ _ ?_
  clear hK K
  try simp only [List.setIfInBounds_toArray, List.set_cons_zero, List.set_cons_succ]
  refine wpAny_last (n := 12) (by kernel_rfl) (by kernel_rfl) rfl (by rfl) ?_
  have g2 := f2.cell' (i := 2) (v := .slice M.rcS.a M.rcS.n M.rcS.c) rfl
  have gf := f2.frozen 2
  clear hHeld
  simp only [List.getElem_toArray, List.getElem_cons_zero, List.getElem_cons_succ]
  go_simp
  have hcc : Chg w w1 (fun k => k ∈ M.rcS.blk) := (Chg.of_below (below_on B0.out D8.out) _).trans CH.out
  have hbb : ∀ k ∈ s1.blk, k ∈ M.rcS.blk ∨ w.heap.size ≤ k := fun k hk => (BL.out k hk).imp id (fun h => by rw [h]; exact (below_on B0.out D8.out).size)
  obtain ⟨q1, q2, q3⟩ := pAt_withRec (r := ⟨⟨⟨ra', rn', rc'⟩, ⟨wa', wn', wc'⟩, ⟨ca', cn', cc'⟩⟩, false, false, 0⟩) (sv := .slice s1.a s1.n s1.c) HR.out hm rfl OW.out SN.out hcc hbb rfl
  generalize (⟨⟨⟨ra', rn', rc'⟩, ⟨wa', wn', wc'⟩, ⟨ca', cn', cc'⟩⟩, false, false, 0⟩ : PRec) = r at q1 q3
  have RR := hide q1; have CC := hide q2; have FF := hide q3
  have hsn : s1.n = M.recs.length + 1 := by rw [SN.out, HR.out.rcn]
  have hcl := HR.out.closed_le
  have c2 : (w1.setCell ⟨M.b, 2, none⟩ (.slice s1.a s1.n s1.c)).cell? ⟨M.b, 2, none⟩ = some (.slice s1.a s1.n s1.c) := q1.row.cell' (i := 2) rfl
  have BLS := hide hbb
  clear q1 q2 q3 hcc hbb OW SN CH BL f2 g2 gf P8 D8 D6 D0 KL KS HW A0 B0 NB RL hnw MM QQ
  generalize w1.setCell ⟨M.b, 2, none⟩ (.slice s1.a s1.n s1.c) = wF at *
  rw [hsn] at c2
  clear hsn
  have OP : Hid (Calls Tryz.prog 106 #[.pointer (some ⟨M.b, 2, none⟩)] wF fun e w' => e = .returned (.int .i64 ((M.recs ++ [r]).length - M.closed : Nat)) ∧ ∃ n, w' = wF.drewN n) := hide (iopen_any (M.withRec r s1) wF RR.out)
  rw [show (M.recs ++ [r]).length = M.recs.length + 1 by simp] at OP
  go_wp2_with fail
  refine OP.out.mono ?_
  rintro e w5 ⟨rfl, nq, rfl⟩
  have R5 := hide (RR.out.drewN nq)
  have C5 := hide (Chg.trans CC.out (Chg.drewN wF nq _))
  have d2 : (wF.drewN nq).cell? ⟨M.b, 2, none⟩ = some (.slice s1.a (M.recs.length + 1) s1.c) := c2
  clear c2 RR CC OP
  generalize wF.drewN nq = W5 at *
  by_cases h6 : M.recs.length + 1 - M.closed = 6
  · have CL : Hid (Calls Tryz.prog 68 #[.pointer (some ⟨M.b, 2, none⟩)] W5 fun e w' => (∃ v, e = .returned v) ∧ ∃ s, PAt w' ((M.withRec r s1).withEnd s) ∧ Chg W5 w' (fun k => k ∈ (M.withRec r s1).mut) ∧ (∀ k ∈ ((M.withRec r s1).withEnd s).foot, k ∈ (M.withRec r s1).foot ∨ W5.heap.size ≤ k)) := hide (iClose_yes (M.withRec r s1) W5 R5.out (by rw [PM.closed_withRec]; simp [PM.withRec]; omega))
    have MU := hide (mut_withRec (r := r) HR.out BLS.out)
    have HF6 := hide h6
    rw [h6]
    clear h6
    go_wp2_with fail
    refine CL.out.mono ?_
    rintro e w6 ⟨⟨v, rfl⟩, s2, hp, hc, hf⟩
    have e2 : w6.cell? ⟨M.b, 2, none⟩ = some (.slice s1.a s1.n s1.c) := hp.row.cell' (i := 2) rfl
    rw [show s1.n = M.recs.length + 1 by have := R5.out.rcn; simpa [PM.withRec] using this] at e2
    have HP := hide hp; have HC := hide hc; have HF := hide hf
    clear hp hc hf CL d2
    go_wp2
    go_ret
    exact ⟨r, s1, _, ret_int (by simp), HP.out, fun _ => ⟨s2, rfl⟩, fun h => absurd HF6.out h, C5.out.trans' HC.out MU.out, fun k hk => (HF.out k hk).elim (fun h => FF.out k h) (fun h => Or.inr (Nat.le_trans C5.out.size h))⟩
  · obtain ⟨O, hO⟩ : ∃ O, O = M.recs.length + 1 - M.closed := ⟨_, rfl⟩
    have HF6 := hide h6
    have h6' : ¬ ((O : Int) = 6) := by omega
    rw [← hO]
    clear hO h6
    go_wp2
    go_ret
    exact ⟨r, s1, _, ret_int (by simp), R5.out, fun h => absurd h HF6.out, fun _ => rfl, C5.out, FF.out⟩

end Go.Proofs.YtlheloogmgmjnaaGreat
