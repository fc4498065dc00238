import Derived.Test.YtlheloogmgmjnaaGreatT32
import Derived.Test.YtlheloogmgmjnaaGreatT28
namespace Go.Proofs.YtlheloogmgmjnaaGreat
open Go.RowKit

theorem Rel.refusalR {M : SM} {R : RM} {X : Nat → Prop} (h : Rel M R X) (t : Tx) : M.refusal t = R.refusal t := h.refusal t

theorem sSubmit_both (M : SM) (R : RM) (ha : Rel M R) (w : World) (h : SAt w M) (hd : TH) (t : Tx) (hx : TxAt w hd t) (hn : hd.nilOk) (hap : ∀ k ∈ hd.blks, k ≠ M.b) :
    Calls Tryz.prog 36 #[.pointer (some ⟨M.b, 0, none⟩), .agg hd.cells] w fun e w' => ∃ M' : SM, e = .returned (.tuple #[.int .i64 (subN M.recs.length (M.refusal t)), .int .i64 (M.refusal t)]) ∧ SAt w' M' ∧ M'.b = M.b ∧ SSub M t M' ∧ Chg w w' (fun k => k ∈ M.mut) ∧ (∀ k ∈ M'.foot, k ∈ M.foot ∨ w.heap.size ≤ k) := by
  have hr5 : M.room ≤ 500 := by rw [ha.room]; exact ha.room5
  have ht5 : M.taken ≤ M.room := by rw [ha.room, ha.taken]; exact ha.fits
  have hcl : M.closed ≤ M.recs.length := by rw [ha.closed, ha.txns]; exact ha.closedle
  have hel : M.ends.length ≤ M.closed := by rw [ha.closed, ha.ends]; exact ha.ends_closed
  by_cases h0 : M.refusal t = 0
  · refine (sSubmit_ok M w h hr5 ht5 hd t hx hn hap hcl hel h0).mono ?_
    rintro e w' ⟨r, s, M', rfl, hp, hre, a6, a7, hc, hf⟩
    refine ⟨M', by rw [h0]; rfl, hp, ?_, ⟨fun hne => absurd h0 hne, fun _ => ⟨r, s, hre, a6, a7⟩⟩, hc, hf⟩
    by_cases h6 : M.recs.length + 1 - M.closed = 6
    · obtain ⟨s2, rfl⟩ := a6 h6; rfl
    · rw [a7 h6]; rfl
  · refine (sSubmit_no M w h hr5 ht5 hd t hx h0).mono ?_
    rintro e w' ⟨rfl, hb⟩
    exact ⟨M, by simp [subN, h0], h.below hb, rfl, ⟨fun _ => rfl, fun he => absurd he h0⟩, Chg.of_below hb _, fun k hk => Or.inl hk⟩

theorem rSubmit_both2 (R : RM) (w : World) (h : RefAt w R) (hd : TH) (t : Tx) (hx : TxAt w hd t) (hn : hd.nilOk) :
    Calls Tryz.prog 73 #[.pointer (some ⟨R.b, 0, none⟩), .agg hd.cells] w fun e w' => ∃ R' : RM, e = .returned (.tuple #[.int .i64 (subN R.tasks.length (R.refusal t)), .int .i64 (R.refusal t)]) ∧ RefAt w' R' ∧ R'.b = R.b ∧ RSub2 R t (decide (R.refusal t = 0)) R' ∧ Chg w w' (fun k => k ∈ R.mut) ∧ (∀ k ∈ R'.foot, k ∈ R.foot ∨ w.heap.size ≤ k) := by
  by_cases hc : checkN t = 0
  · by_cases hm : 150 ≤ R.tasks.length
    · have e0 : R.refusal t = 6 := by simp [RM.refusal, hc, hm]
      refine (rSubmit_many R w h hd t hx hc hm).mono ?_
      rintro e w' ⟨rfl, hb⟩
      exact ⟨R, by rw [e0]; rfl, h.below hb, rfl, ⟨fun _ => rfl, fun he => by rw [e0] at he; simp at he⟩, Chg.of_below hb _, fun k hk => Or.inl hk⟩
    · by_cases hf : R.room < R.used + t.w.length
      · have e0 : R.refusal t = 7 := by simp [RM.refusal, hc, hm, hf]
        refine (rSubmit_full R w h hd t hx hc (by omega) hf).mono ?_
        rintro e w' ⟨rfl, hb⟩
        exact ⟨R, by rw [e0]; rfl, h.below hb, rfl, ⟨fun _ => rfl, fun he => by rw [e0] at he; simp at he⟩, Chg.of_below hb _, fun k hk => Or.inl hk⟩
      · have e0 : R.refusal t = 0 := by simp [RM.refusal, hc, hm, hf]
        refine (rSubmit_ok R w h hd t hx hn hc (by omega) (by omega)).mono ?_
        rintro e w' ⟨T, s, R', rfl, hr, e1, e2, e3, e4, a6, a7, hch, hft⟩
        refine ⟨R', by rw [e0]; rfl, hr, ?_, ⟨fun he => by rw [e0] at he; simp at he, fun _ => ⟨T, s, e1, e2, e3, e4, a6, a7⟩⟩, hch, hft⟩
        by_cases h6 : R.tasks.length + 1 - R.closed = 6
        · obtain ⟨s2, rfl⟩ := a6 h6; rfl
        · rw [a7 h6]; rfl
  · have e0 : R.refusal t = checkN t := by simp [RM.refusal, hc]
    refine (rSubmit_bad R w hd t hx hc).mono ?_
    rintro e w' ⟨rfl, hb⟩
    exact ⟨R, by rw [e0]; simp [subN, hc], h.below hb, rfl, ⟨fun _ => rfl, fun he => by rw [e0] at he; simp [hc] at he⟩, Chg.of_below hb _, fun k hk => Or.inl hk⟩

set_option maxHeartbeats 4000000 in
set_option maxRecDepth 100000 in
theorem ssubmit_any (w0 w : World) (x : Nat) (M : SM) (R : RM) (h : TwoS w0 w x M R) (ha : Rel M R) (hd : TH) (t : Tx) (hx : TxAt w0 hd t) (hn : hd.nilOk) :
    Calls Tryz.prog 42 #[.pointer (some ⟨x, 0, none⟩), .agg hd.cells] w fun e w' => e = .returned (.bool true) ∧ ∃ M' R', TwoS w0 w' x M' R' ∧ Rel M' R' := by
  have HX := hide (fun wx (hb : Below w0.heap.size w0 wx) => hx.below hb)
  have HD := hide (fun wx (hb : Below w0.heap.size w0 wx) => handed_any hd t wx (hx.below hb))
  have PS := hide (fun (g0 g1 g2 : Nat) wx (hp : SAt wx M) h0 h1 h2 hap => sSubmit_both M R ha wx hp (hdTH g0 g1 g2 t) t (hdTH_at hx h0 h1 h2) (by simp [TH.nilOk, hdTH]) hap)
  have ST := hide (fun (g0 g1 g2 : Nat) wx (hb : Below w0.heap.size w0 wx) h0 h1 h2 => still_any g0 g1 g2 hd t wx (hx.below hb) h0 h1 h2)
  have SP := hide (fun (g0 g1 g2 : Nat) wx h0 h1 h2 => spoil_any g0 g1 g2 t.r.length t.w.length t.c.length (t.r.length + 2) (t.w.length + 2) (t.c.length + 2) (t.r.length + 2) (t.w.length + 2) (t.c.length + 2) wx h0 h1 h2 (by omega) (by omega) (by omega) (by have := hx.rb; rw [hx.rl] at this; omega) (by have := hx.wb; rw [hx.wl] at this; omega) (by have := hx.cb; rw [hx.cl] at this; omega))
  have RS := hide (fun wx (hb : Below w0.heap.size w0 wx) (hr : RefAt wx R) => rSubmit_both2 R wx hr hd t (hx.below hb) hn)
  rw [← ha.refusalR t, ← ha.txns] at RS
  have AS := hide (fun M' R' (h1 : SSub M t M') (h2 : RSub2 R t (decide (M.refusal t = 0)) R') => rel_sub (z := decide (M.refusal t = 0)) ha (by simp) h1 h2)
  have T0 := hide h
  clear h ha hx hn
  obtain ⟨⟨ra, rn, rc⟩, ⟨wa, wn, wc⟩, ⟨ca, cn, cc⟩⟩ := hd
  simp only [TH.cells, hdTH] at HD PS ST RS
  show Calls Tryz.prog 42 #[.pointer (some ⟨x, 0, none⟩), .agg #[.slice ra rn rc, .slice wa wn wc, .slice ca cn cc]] w _
  generalize hN : subN M.recs.length (M.refusal t) = N at *
  generalize hE : M.refusal t = E at *
  clear hN hE
  go_enter Tryz.func42, Tryz.ntmps42
  go_wp2_with fail
  refine (HD.out _ (below_on T0.out.below (below_alloc1 _ _))).mono ?_
  rintro e w1 ⟨g0, g1, g2, rfl, l0, l1, l2, r0, r1, r2, hb1⟩
  have A1 := hide ((rowAt_alloc w [.slice ra rn rc, .slice wa wn wc, .slice ca cn cc] 33).below' hb1)
  have T1 := hide (T0.out.on (below_alloc hb1))
  have k0 : w.heap.size < g0 := by simp at l0; omega
  have k1 : w.heap.size < g1 := by simp at l1; omega
  have k2 : w.heap.size < g2 := by simp at l2; omega
  have W1 : Hid (w.heap.size < w1.heap.size) := hide A1.out.lt
  have R0 := hide r0; have R1 := hide r1; have R2 := hide r2
  clear HD hb1 r0 r1 r2 l0 l1 l2
  go_wp2
  have H1 := hide (rowAt_alloc w1 [.slice (some ⟨g0, 0, none⟩) t.r.length (t.r.length + 2), .slice (some ⟨g1, 0, none⟩) t.w.length (t.w.length + 2), .slice (some ⟨g2, 0, none⟩) t.c.length (t.c.length + 2)] 33)
  have B1 := hide (below_alloc1 w1 (.cells #[.slice (some ⟨g0, 0, none⟩) t.r.length (t.r.length + 2), .slice (some ⟨g1, 0, none⟩) t.w.length (t.w.length + 2), .slice (some ⟨g2, 0, none⟩) t.c.length (t.c.length + 2)] 33))
  change Hid (RowAt (w1.alloc (.cells #[.slice (some ⟨g0, 0, none⟩) t.r.length (t.r.length + 2), .slice (some ⟨g1, 0, none⟩) t.w.length (t.w.length + 2), .slice (some ⟨g2, 0, none⟩) t.c.length (t.c.length + 2)] 33)) w1.heap.size 33 [.slice (some ⟨g0, 0, none⟩) t.r.length (t.r.length + 2), .slice (some ⟨g1, 0, none⟩) t.w.length (t.w.length + 2), .slice (some ⟨g2, 0, none⟩) t.c.length (t.c.length + 2)]) at H1
  generalize w1.alloc (.cells #[.slice (some ⟨g0, 0, none⟩) t.r.length (t.r.length + 2), .slice (some ⟨g1, 0, none⟩) t.w.length (t.w.length + 2), .slice (some ⟨g2, 0, none⟩) t.c.length (t.c.length + 2)] 33) = W at *
  have TW := hide ((T1.out.on B1.out).on ((Below.refl _ _).drew))
  have H1D := hide H1.out.drew
  have AD := hide (A1.out.below' B1.out).drew
  have RD0 := hide (R0.out.below' B1.out).drew
  have RD1 := hide (R1.out.below' B1.out).drew
  have RD2 := hide (R2.out.below' B1.out).drew
  obtain ⟨hb, hhb⟩ : ∃ hb, hb = w1.heap.size := ⟨_, rfl⟩
  have hbw : w.heap.size < hb := by rw [hhb]; exact W1.out
  rw [← hhb] at H1D ⊢
  have FW := hide (fun k (hk : w.heap.size ≤ k) => T0.out.far hk)
  have KS : Hid (∀ w', Chg W.drew w' (fun k => k ∈ M.mut) → (w'.cell? ⟨x, 0, none⟩ = some (.pointer (some ⟨M.b, 0, none⟩)) ∧ w'.cell? ⟨hb, 0, none⟩ = some (.slice (some ⟨g0, 0, none⟩) t.r.length (t.r.length + 2)) ∧ w'.cell? ⟨hb, 1, none⟩ = some (.slice (some ⟨g1, 0, none⟩) t.w.length (t.w.length + 2)) ∧ w'.cell? ⟨hb, 2, none⟩ = some (.slice (some ⟨g2, 0, none⟩) t.c.length (t.c.length + 2)))) := hide (fun w' hC => by
    have hmf : ∀ k ∈ M.mut, k ∈ M.foot := fun k hk => by simp [SM.foot, hk]
    have p := TW.out.pair.chg hC (fun hk => TW.out.xm (hmf _ hk))
    have q := H1D.out.chg hC (fun hk => (FW.out hb (by omega)).2.2.1 (hmf _ hk))
    exact ⟨p.cell' (i := 0) rfl, q.cell' (i := 0) rfl, q.cell' (i := 1) rfl, q.cell' (i := 2) rfl⟩)
  have PSW := hide (PS.out g0 g1 g2 W.drew TW.out.p RD0.out RD1.out RD2.out (fun k hk => by
    have hbl := T0.out.p.row.lt
    simp only [TH.blks, Sl.blk, List.mem_append, List.mem_singleton] at hk
    rcases hk with h | h | h <;> omega))
  clear PS T1 A1 R0 R1 R2 H1 B1 W1 hhb
  refine wp_region_L (L := #[true, true, true, true, true, true, true, true, true, true, true]) (S := (fun w' => w'.cell? ⟨x, 0, none⟩ = some (.pointer (some ⟨M.b, 0, none⟩)) ∧ w'.cell? ⟨hb, 0, none⟩ = some (.slice (some ⟨g0, 0, none⟩) t.r.length (t.r.length + 2)) ∧ w'.cell? ⟨hb, 1, none⟩ = some (.slice (some ⟨g1, 0, none⟩) t.w.length (t.w.length + 2)) ∧ w'.cell? ⟨hb, 2, none⟩ = some (.slice (some ⟨g2, 0, none⟩) t.c.length (t.c.length + 2)))) (by kernel_rfl) ?_
  have hHeld := KS.out W.drew (Chg.refl _ _)
  refine wpL_take (i := 0) (v := ?_) rfl (by kernel_rfl) (by kernel_rfl) (by kernel_rfl) (by kernel_rfl) (fun _ _ _ h => h) (by rfl) ?_ (by assumption) ?_
  rotate_left
  · intro w hSw; (try dsimp only at hSw); (go_simp <;> with_reducible rfl)
  try simp only [List.getElem_toArray, List.getElem_cons_zero, Act.put, List.setIfInBounds_toArray, List.set_cons_zero, List.set_cons_succ]
  refine wpL_take (i := 1) (v := ?_) rfl (by kernel_rfl) (by kernel_rfl) (by kernel_rfl) (by kernel_rfl) (fun _ _ _ h => h) (by rfl) ?_ (by assumption) ?_
  rotate_left
  · intro w hSw; (try dsimp only at hSw); (go_simp <;> with_reducible rfl)
  try simp only [List.getElem_toArray, List.getElem_cons_zero, List.getElem_cons_succ, Act.put, List.setIfInBounds_toArray, List.set_cons_zero, List.set_cons_succ]
  refine wpL_take (i := 2) (v := ?_) rfl (by kernel_rfl) (by kernel_rfl) (by kernel_rfl) (by kernel_rfl) (fun _ _ _ h => h) (by rfl) ?_ (by assumption) ?_
  rotate_left
  · intro w hSw; (try dsimp only at hSw); (go_simp <;> with_reducible rfl)
  try simp only [List.getElem_toArray, List.getElem_cons_zero, List.getElem_cons_succ, Act.put, List.setIfInBounds_toArray, List.set_cons_zero, List.set_cons_succ]
  refine wpL_take (i := 3) (v := ?_) rfl (by kernel_rfl) (by kernel_rfl) (by kernel_rfl) (by kernel_rfl) (fun _ _ _ h => h) (by rfl) ?_ (by assumption) ?_
  rotate_left
  · intro w hSw; (try dsimp only at hSw); (go_simp <;> with_reducible rfl)
  try simp only [List.getElem_toArray, List.getElem_cons_zero, List.getElem_cons_succ, Act.put, List.setIfInBounds_toArray, List.set_cons_zero, List.set_cons_succ]
  refine wpL_take (i := 4) (v := ?_) rfl (by kernel_rfl) (by kernel_rfl) (by kernel_rfl) (by kernel_rfl) (fun _ _ _ h => h) (by rfl) ?_ (by assumption) ?_
  rotate_left
  · intro w hSw; (try dsimp only at hSw); (go_simp <;> with_reducible rfl)
  try simp only [List.getElem_toArray, List.getElem_cons_zero, List.getElem_cons_succ, Act.put, List.setIfInBounds_toArray, List.set_cons_zero, List.set_cons_succ]
  refine wpL_one (n := 5) (by kernel_rfl) rfl (by rfl) (fun K hK => ?_)
  clear hHeld
  simp only [List.getElem_toArray, List.getElem_cons_zero, List.getElem_cons_succ]
  go_simp
  refine PSW.out.mono ?_
  rintro e w2 ⟨M', rfl, hp, hbb, hps, hc2, hf2⟩
  have hHeld := KS.out w2 hc2
  have T2 := hide (TW.out.prog hp hbb hc2 hf2)
  have PS2 := hide hps
  have hmf : ∀ k ∈ M.mut, k ∈ M.foot := fun k hk => by simp [SM.foot, hk]
  have H2 := hide (H1D.out.chg hc2 (fun hk => (FW.out hb (by omega)).2.2.1 (hmf _ hk)))
  have A2 := hide (AD.out.chg hc2 (fun hk => (FW.out w.heap.size (Nat.le_refl _)).2.2.1 (hmf _ hk)))
  have Q0 := hide (RD0.out.chg hc2 (fun hk => (FW.out g0 (by omega)).2.2.1 (hmf _ hk)))
  have Q1 := hide (RD1.out.chg hc2 (fun hk => (FW.out g1 (by omega)).2.2.1 (hmf _ hk)))
  have Q2 := hide (RD2.out.chg hc2 (fun hk => (FW.out g2 (by omega)).2.2.1 (hmf _ hk)))
  have F2 := hide (fun k (hk1 : w.heap.size ≤ k) (hk2 : k < W.drew.heap.size) => (show w0.heap.size ≤ k ∧ k ≠ x ∧ k ∉ M'.foot ∧ k ∉ R.foot from ⟨(FW.out k hk1).1, (FW.out k hk1).2.1, fun hm => (hf2 k hm).elim (FW.out k hk1).2.2.1 (fun h => by omega), (FW.out k hk1).2.2.2⟩))
  have GL0 := hide RD0.out.lt; have GL1 := hide RD1.out.lt; have GL2 := hide RD2.out.lt; have GLH := hide H1D.out.lt
  refine hK.out _ _ hHeld ?_
  clear hK K hp hbb hps hc2 hf2 hmf PSW KS H1D AD RD0 RD1 RD2 TW
  try simp only [List.getElem_toArray, List.getElem_cons_zero, List.getElem_cons_succ, Act.put, List.setIfInBounds_toArray, List.set_cons_zero, List.set_cons_succ]
  refine wpL_take (i := 6) (v := ?_) rfl (by kernel_rfl) (by kernel_rfl) (by kernel_rfl) (by kernel_rfl) (fun _ _ _ h => h) (by rfl) ?_ (by assumption) ?_
  rotate_left
  · intro w hSw; (try dsimp only at hSw); (go_simp <;> with_reducible rfl)
  try simp only [List.getElem_toArray, List.getElem_cons_zero, List.getElem_cons_succ, Act.put, List.setIfInBounds_toArray, List.set_cons_zero, List.set_cons_succ]
  refine wpL_take (i := 7) (v := ?_) rfl (by kernel_rfl) (by kernel_rfl) (by kernel_rfl) (by kernel_rfl) (fun _ _ _ h => h) (by rfl) ?_ (by assumption) ?_
  rotate_left
  · intro w hSw; (try dsimp only at hSw); (go_simp <;> with_reducible rfl)
  try simp only [List.getElem_toArray, List.getElem_cons_zero, List.getElem_cons_succ, Act.put, List.setIfInBounds_toArray, List.set_cons_zero, List.set_cons_succ]
  refine wpL_take (i := 8) (v := ?_) rfl (by kernel_rfl) (by kernel_rfl) (by kernel_rfl) (by kernel_rfl) (fun _ _ _ h => h) (by rfl) ?_ (by assumption) ?_
  rotate_left
  · intro w hSw; (try dsimp only at hSw); (go_simp <;> with_reducible rfl)
  try simp only [List.getElem_toArray, List.getElem_cons_zero, List.getElem_cons_succ, Act.put, List.setIfInBounds_toArray, List.set_cons_zero, List.set_cons_succ]
  refine wpL_take (i := 9) (v := ?_) rfl (by kernel_rfl) (by kernel_rfl) (by kernel_rfl) (by kernel_rfl) (fun _ _ _ h => h) (by rfl) ?_ (by assumption) ?_
  rotate_left
  · intro w hSw; (try dsimp only at hSw); (go_simp <;> with_reducible rfl)
  try simp only [List.getElem_toArray, List.getElem_cons_zero, List.getElem_cons_succ, Act.put, List.setIfInBounds_toArray, List.set_cons_zero, List.set_cons_succ]
  refine wpL_take (i := 10) (v := ?_) rfl (by kernel_rfl) (by kernel_rfl) (by kernel_rfl) (by kernel_rfl) (fun _ _ _ h => h) (by rfl) ?_ (by assumption) ?_
  rotate_left
  · intro w hSw; (try dsimp only at hSw); (go_simp <;> with_reducible rfl)
  try simp only [List.getElem_toArray, List.getElem_cons_zero, List.getElem_cons_succ, Act.put, List.setIfInBounds_toArray, List.set_cons_zero, List.set_cons_succ]
  refine wpL_leaf _ (by kernel_rfl) ?_
  refine wpAny_none _ (by kernel_rfl) ?_
  clear hHeld
  have a0 := A2.out.cell' (i := 0) rfl
  have a1 := A2.out.cell' (i := 1) rfl
  have a2 := A2.out.cell' (i := 2) rfl
  have b0 := H2.out.cell' (i := 0) rfl
  have b1 := H2.out.cell' (i := 1) rfl
  have b2 := H2.out.cell' (i := 2) rfl
  go_wp2_with fail
  refine (ST.out g0 g1 g2 _ T2.out.below Q0.out Q1.out Q2.out).mono ?_
  rintro e w3 ⟨rfl, hb3⟩
  have T3 := hide (T2.out.on hb3)
  have H3 := hide (H2.out.below' hb3)
  have A3 := hide (A2.out.below' hb3)
  have S0 := hide (Q0.out.below' hb3); have S1 := hide (Q1.out.below' hb3); have S2 := hide (Q2.out.below' hb3)
  clear ST Q0 Q1 Q2 A2 H2 T2 hb3 a0 a1 a2 b0 b1 b2
  have b0 := H3.out.cell' (i := 0) rfl
  have b1 := H3.out.cell' (i := 1) rfl
  have b2 := H3.out.cell' (i := 2) rfl
  go_wp2_with fail
  refine (SP.out g0 g1 g2 _ ⟨t.r ++ [77, 77], by simp, S0.out⟩ ⟨t.w ++ [77, 77], by simp, S1.out⟩ ⟨t.c ++ [ins77, ins77], by simp, S2.out⟩).mono ?_
  rintro e w4 ⟨⟨v, rfl⟩, hc4⟩
  have T4 := hide (T3.out.chg hc4 (fun k hk => by
    rcases hk with h | h | h
    · rw [h]; exact F2.out g0 (by omega) GL0.out
    · rw [h]; exact F2.out g1 (by omega) GL1.out
    · rw [h]; exact F2.out g2 (by omega) GL2.out))
  have A4 := hide (A3.out.chg hc4 (by show ¬ (w.heap.size = g0 ∨ w.heap.size = g1 ∨ w.heap.size = g2); omega))
  have hxA : Hid (w.heap.size ≠ x ∧ w.heap.size ∉ M'.foot ∧ w.heap.size ∉ R.foot) := hide (F2.out w.heap.size (Nat.le_refl _) (by have := GL0.out; omega)).2
  clear SP S0 S1 S2 A3 H3 T3 hc4 b0 b1 b2 F2 GL0 GL1 GL2 GLH FW T0
  have T4D := hide (T4.out.on (Below.refl _ _).drew)
  have A4D := hide A4.out.drew
  go_wp2
  have KR : Hid (∀ w', Chg w4.drew w' (fun k => k ∈ R.mut) → (w'.cell? ⟨x, 1, none⟩ = some (.pointer (some ⟨R.b, 0, none⟩)) ∧ w'.cell? ⟨w.heap.size, 0, none⟩ = some (.slice ra rn rc) ∧ w'.cell? ⟨w.heap.size, 1, none⟩ = some (.slice wa wn wc) ∧ w'.cell? ⟨w.heap.size, 2, none⟩ = some (.slice ca cn cc))) := hide (fun w' hC => by
    have hmf : ∀ k ∈ R.mut, k ∈ R.foot := fun k hk => by simp [RM.foot, hk]
    have p := T4D.out.pair.chg hC (fun hk => T4D.out.xr (hmf _ hk))
    have q := A4D.out.chg hC (fun hk => hxA.out.2.2 (hmf _ hk))
    exact ⟨p.cell' (i := 1) rfl, q.cell' (i := 0) rfl, q.cell' (i := 1) rfl, q.cell' (i := 2) rfl⟩)
  have RSW := hide (RS.out w4.drew T4D.out.below T4D.out.r)
  clear RS
  refine wp_region_L (L := #[true, true, true, true, true, true, true, true, true, true, true]) (S := (fun w' => w'.cell? ⟨x, 1, none⟩ = some (.pointer (some ⟨R.b, 0, none⟩)) ∧ w'.cell? ⟨w.heap.size, 0, none⟩ = some (.slice ra rn rc) ∧ w'.cell? ⟨w.heap.size, 1, none⟩ = some (.slice wa wn wc) ∧ w'.cell? ⟨w.heap.size, 2, none⟩ = some (.slice ca cn cc))) (by kernel_rfl) ?_
  have hHeld := KR.out w4.drew (Chg.refl _ _)
  refine wpL_take (i := 0) (v := ?_) rfl (by kernel_rfl) (by kernel_rfl) (by kernel_rfl) (by kernel_rfl) (fun _ _ _ h => h) (by rfl) ?_ (by assumption) ?_
  rotate_left
  · intro w hSw; (try dsimp only at hSw); (go_simp <;> with_reducible rfl)
  try simp only [List.getElem_toArray, List.getElem_cons_zero, Act.put, List.setIfInBounds_toArray, List.set_cons_zero, List.set_cons_succ]
  refine wpL_take (i := 1) (v := ?_) rfl (by kernel_rfl) (by kernel_rfl) (by kernel_rfl) (by kernel_rfl) (fun _ _ _ h => h) (by rfl) ?_ (by assumption) ?_
  rotate_left
  · intro w hSw; (try dsimp only at hSw); (go_simp <;> with_reducible rfl)
  try simp only [List.getElem_toArray, List.getElem_cons_zero, List.getElem_cons_succ, Act.put, List.setIfInBounds_toArray, List.set_cons_zero, List.set_cons_succ]
  refine wpL_take (i := 2) (v := ?_) rfl (by kernel_rfl) (by kernel_rfl) (by kernel_rfl) (by kernel_rfl) (fun _ _ _ h => h) (by rfl) ?_ (by assumption) ?_
  rotate_left
  · intro w hSw; (try dsimp only at hSw); (go_simp <;> with_reducible rfl)
  try simp only [List.getElem_toArray, List.getElem_cons_zero, List.getElem_cons_succ, Act.put, List.setIfInBounds_toArray, List.set_cons_zero, List.set_cons_succ]
  refine wpL_take (i := 3) (v := ?_) rfl (by kernel_rfl) (by kernel_rfl) (by kernel_rfl) (by kernel_rfl) (fun _ _ _ h => h) (by rfl) ?_ (by assumption) ?_
  rotate_left
  · intro w hSw; (try dsimp only at hSw); (go_simp <;> with_reducible rfl)
  try simp only [List.getElem_toArray, List.getElem_cons_zero, List.getElem_cons_succ, Act.put, List.setIfInBounds_toArray, List.set_cons_zero, List.set_cons_succ]
  refine wpL_take (i := 4) (v := ?_) rfl (by kernel_rfl) (by kernel_rfl) (by kernel_rfl) (by kernel_rfl) (fun _ _ _ h => h) (by rfl) ?_ (by assumption) ?_
  rotate_left
  · intro w hSw; (try dsimp only at hSw); (go_simp <;> with_reducible rfl)
  try simp only [List.getElem_toArray, List.getElem_cons_zero, List.getElem_cons_succ, Act.put, List.setIfInBounds_toArray, List.set_cons_zero, List.set_cons_succ]
  refine wpL_one (n := 5) (by kernel_rfl) rfl (by rfl) (fun K hK => ?_)
  clear hHeld
  simp only [List.getElem_toArray, List.getElem_cons_zero, List.getElem_cons_succ]
  go_simp
  refine RSW.out.mono ?_
  rintro e w5 ⟨R', rfl, hr5, hb5, hs5, hc5, hf5⟩
  have hHeld := KR.out w5 hc5
  have T5 := hide (T4D.out.ref hr5 hb5 hc5 hf5)
  have A5 := hide (AS.out M' R' PS2.out hs5)
  refine hK.out _ _ hHeld ?_
  clear hK K hr5 hb5 hs5 hc5 hf5 RSW KR T4D A4D T4 A4 AS PS2 hxA
  try simp only [List.getElem_toArray, List.getElem_cons_zero, List.getElem_cons_succ, Act.put, List.setIfInBounds_toArray, List.set_cons_zero, List.set_cons_succ]
  refine wpL_take (i := 6) (v := ?_) rfl (by kernel_rfl) (by kernel_rfl) (by kernel_rfl) (by kernel_rfl) (fun _ _ _ h => h) (by rfl) ?_ (by assumption) ?_
  rotate_left
  · intro w hSw; (try dsimp only at hSw); (go_simp <;> with_reducible rfl)
  try simp only [List.getElem_toArray, List.getElem_cons_zero, List.getElem_cons_succ, Act.put, List.setIfInBounds_toArray, List.set_cons_zero, List.set_cons_succ]
  refine wpL_take (i := 7) (v := ?_) rfl (by kernel_rfl) (by kernel_rfl) (by kernel_rfl) (by kernel_rfl) (fun _ _ _ h => h) (by rfl) ?_ (by assumption) ?_
  rotate_left
  · intro w hSw; (try dsimp only at hSw); (go_simp <;> with_reducible rfl)
  try simp only [List.getElem_toArray, List.getElem_cons_zero, List.getElem_cons_succ, Act.put, List.setIfInBounds_toArray, List.set_cons_zero, List.set_cons_succ]
  refine wpL_take (i := 8) (v := ?_) rfl (by kernel_rfl) (by kernel_rfl) (by kernel_rfl) (by kernel_rfl) (fun _ _ _ h => h) (by rfl) ?_ (by assumption) ?_
  rotate_left
  · intro w hSw; (try dsimp only at hSw); (go_simp <;> with_reducible rfl)
  try simp only [List.getElem_toArray, List.getElem_cons_zero, List.getElem_cons_succ, Act.put, List.setIfInBounds_toArray, List.set_cons_zero, List.set_cons_succ]
  refine wpL_take (i := 9) (v := ?_) rfl (by kernel_rfl) (by kernel_rfl) (by kernel_rfl) (by kernel_rfl) (fun _ _ _ h => h) (by rfl) ?_ (by assumption) ?_
  rotate_left
  · intro w hSw; (try dsimp only at hSw); (go_simp <;> with_reducible rfl)
  try simp only [List.getElem_toArray, List.getElem_cons_zero, List.getElem_cons_succ, Act.put, List.setIfInBounds_toArray, List.set_cons_zero, List.set_cons_succ]
  refine wpL_take (i := 10) (v := ?_) rfl (by kernel_rfl) (by kernel_rfl) (by kernel_rfl) (by kernel_rfl) (fun _ _ _ h => h) (by rfl) ?_ (by assumption) ?_
  rotate_left
  · intro w hSw; (try dsimp only at hSw); (go_simp <;> with_reducible rfl)
  try simp only [List.getElem_toArray, List.getElem_cons_zero, List.getElem_cons_succ, Act.put, List.setIfInBounds_toArray, List.set_cons_zero, List.set_cons_succ]
  refine wpL_leaf _ (by kernel_rfl) ?_
  refine wpAny_none _ (by kernel_rfl) ?_
  clear hHeld HX
  have hNN : (N == N) = true := by simp
  have hEE : (E == E) = true := by simp
  go_wp2
  go_ret
  exact ⟨rfl, M', R', T5.out, A5.out⟩

end Go.Proofs.YtlheloogmgmjnaaGreat
