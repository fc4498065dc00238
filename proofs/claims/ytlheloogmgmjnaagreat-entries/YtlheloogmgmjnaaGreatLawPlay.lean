import Derived.Test.YtlheloogmgmjnaaGreatLawSub
import Derived.Test.YtlheloogmgmjnaaGreatOpenOps
namespace Go.Proofs.YtlheloogmgmjnaaGreat
open Go.RowKit

def OpV.cells (x : OpV) : List Value := [.int .i64 x.kind, .int .i64 x.a, .int .i64 x.b, .int .i64 x.c, .slice x.hd.r.a x.hd.r.n x.hd.r.c, .slice x.hd.w.a x.hd.w.n x.hd.w.c, .slice x.hd.c.a x.hd.c.n x.hd.c.c]

/-- Cut of both. -/
theorem pCut_both (M : PM) (w : World) (h : PAt w M) :
    Calls Tryz.prog 37 #[.pointer (some ⟨M.b, 0, none⟩)] w fun e w' => ∃ M' : PM, e = .returned (.int .i64 M'.ends.length) ∧ PAt w' M' ∧ M'.b = M.b ∧ (¬ M.closed < M.recs.length → M' = M) ∧ (M.closed < M.recs.length → ∃ s, M' = M.withEnd s) ∧ Chg w w' (fun k => k ∈ M.mut) ∧ (∀ k ∈ M'.foot, k ∈ M.foot ∨ w.heap.size ≤ k) := by
  by_cases hlt : M.closed < M.recs.length
  · refine (pCut_yes M w h hlt).mono ?_
    rintro e w' ⟨s, rfl, hp, hc, hf⟩
    exact ⟨_, by simp [PM.withEnd], hp, rfl, fun hn => absurd hlt hn, fun _ => ⟨s, rfl⟩, hc, hf⟩
  · refine (pCut_no M w h hlt).mono ?_
    rintro e w' ⟨rfl, n, rfl⟩
    exact ⟨M, rfl, h.drewN n, rfl, fun _ => rfl, fun hn => absurd hn hlt, Chg.drewN _ _ _, fun k hk => Or.inl hk⟩

theorem rCut_both (R : RM) (w : World) (h : RefAt w R) :
    Calls Tryz.prog 43 #[.pointer (some ⟨R.b, 0, none⟩)] w fun e w' => ∃ R' : RM, e = .returned (.int .i64 R'.ends.length) ∧ RefAt w' R' ∧ R'.b = R.b ∧ (¬ R.closed < R.tasks.length → R' = R) ∧ (R.closed < R.tasks.length → ∃ s, R' = R.withEnd s) ∧ Chg w w' (fun k => k ∈ R.mut) ∧ (∀ k ∈ R'.foot, k ∈ R.foot ∨ w.heap.size ≤ k) := by
  by_cases hlt : R.closed < R.tasks.length
  · refine (rCut_yes R w h hlt).mono ?_
    rintro e w' ⟨s, rfl, hp, hc, hf⟩
    exact ⟨_, by simp [RM.withEnd], hp, rfl, fun hn => absurd hlt hn, fun _ => ⟨s, rfl⟩, hc, hf⟩
  · refine (rCut_no R w h hlt).mono ?_
    rintro e w' ⟨rfl, n, rfl⟩
    exact ⟨R, rfl, h.drewN n, rfl, fun _ => rfl, fun hn => absurd hn hlt, Chg.drewN _ _ _, fun k hk => Or.inl hk⟩

theorem alike_cut_both {M M' : PM} {R R' : RM} (h : Alike M R) (a1 : ¬ M.closed < M.recs.length → M' = M) (a2 : M.closed < M.recs.length → ∃ s, M' = M.withEnd s) (b1 : ¬ R.closed < R.tasks.length → R' = R) (b2 : R.closed < R.tasks.length → ∃ s, R' = R.withEnd s) : Alike M' R' := by
  by_cases hlt : M.closed < M.recs.length
  · obtain ⟨s, rfl⟩ := a2 hlt
    obtain ⟨s', rfl⟩ := b2 (by rw [← h.closed, ← h.txns]; exact hlt)
    exact alike_cut h s s' hlt
  · rw [a1 hlt, b1 (by rw [← h.closed, ← h.txns]; exact hlt)]
    exact h

set_option maxHeartbeats 4000000 in
set_option maxRecDepth 100000 in
theorem play_submit (w0 w : World) (x : Nat) (M : PM) (R : RM) (h : Two w0 w x M R) (ha : Alike M R) (y : OpV) (hx : TxAt w0 y.hd y.t) (hn : y.hd.nilOk) (hk : y.kind = 1) :
    Calls Tryz.prog 14 #[.pointer (some ⟨x, 0, none⟩), .agg y.cells.toArray] w fun e w' => e = .returned (.bool true) ∧ ∃ M' R', Two w0 w' x M' R' ∧ Alike M' R' := by
  have SU := hide (fun wx (hb : Below w.heap.size w wx) => submit_any w0 wx x M R (h.on hb) ha y.hd y.t hx hn)
  clear h ha hx hn
  obtain ⟨kind, a, b, c, ⟨⟨ra, rn, rc⟩, ⟨wa, wn, wc⟩, ⟨ca, cn, cc⟩⟩, t⟩ := y
  simp only at hk
  subst hk
  simp only [TH.cells] at SU
  show Calls Tryz.prog 14 #[.pointer (some ⟨x, 0, none⟩), .agg #[.int .i64 1, .int .i64 a, .int .i64 b, .int .i64 c, .slice ra rn rc, .slice wa wn wc, .slice ca cn cc]] w _
  go_enter Tryz.func14, Tryz.ntmps14
  go_wp2_with fail
  refine (SU.out _ (below_alloc1 _ _)).mono ?_
  rintro e w1 ⟨rfl, h1⟩
  have H1 := hide h1
  clear h1 SU
  go_wp2
  go_ret
  exact ⟨rfl, H1.out⟩

set_option maxHeartbeats 4000000 in
set_option maxRecDepth 100000 in
theorem play_cut (w0 w : World) (x : Nat) (M : PM) (R : RM) (h : Two w0 w x M R) (ha : Alike M R) (y : OpV) (hk : y.kind = 2) :
    Calls Tryz.prog 14 #[.pointer (some ⟨x, 0, none⟩), .agg y.cells.toArray] w fun e w' => e = .returned (.bool true) ∧ ∃ M' R', Two w0 w' x M' R' ∧ Alike M' R' := by
  have T0 := hide h
  have HA := hide ha
  clear h ha
  obtain ⟨kind, a, b, c, ⟨⟨ra, rn, rc⟩, ⟨wa, wn, wc⟩, ⟨ca, cn, cc⟩⟩, t⟩ := y
  simp only at hk
  subst hk
  show Calls Tryz.prog 14 #[.pointer (some ⟨x, 0, none⟩), .agg #[.int .i64 2, .int .i64 a, .int .i64 b, .int .i64 c, .slice ra rn rc, .slice wa wn wc, .slice ca cn cc]] w _
  have T1 := hide (T0.out.on (below_alloc1 w (.cells #[.int .i64 2, .int .i64 a, .int .i64 b, .int .i64 c, .slice ra rn rc, .slice wa wn wc, .slice ca cn cc] 35)))
  have hxl := T0.out.pair.lt
  have x0 := T0.out.pair.cell' (i := 0) rfl
  have PC := hide (pCut_both M _ T1.out.p)
  go_enter Tryz.func14, Tryz.ntmps14
  go_wp2_with fail
  refine PC.out.mono ?_
  rintro e w1 ⟨M', rfl, hp, hb, a1, a2, hc, hf⟩
  have T2 := hide (T1.out.prog hp hb hc hf)
  have RC := hide (rCut_both R w1 T2.out.r)
  have x1 := T2.out.pair.cell' (i := 1) rfl
  have AA := hide (fun R' => alike_cut_both (R' := R') HA.out a1 a2)
  clear hp hb a1 a2 hc hf PC T1 x0
  go_wp2_with fail
  refine RC.out.mono ?_
  rintro e w2 ⟨R', rfl, hr, hb, b1, b2, hc, hf⟩
  have T3 := hide (T2.out.ref hr hb hc hf)
  have A3 := hide (AA.out R' b1 b2)
  have he : (M'.ends.length : Int) = (R'.ends.length : Int) := by rw [A3.out.ends]
  clear hr hb b1 b2 hc hf RC AA T2 x1
  rw [he]
  go_wp2
  go_ret
  exact ⟨by simp, M', R', T3.out, A3.out⟩

set_option maxHeartbeats 4000000 in
set_option maxRecDepth 100000 in
theorem play_show (w0 w : World) (x : Nat) (M : PM) (R : RM) (h : Two w0 w x M R) (ha : Alike M R) (y : OpV) (hk : y.kind = 3) :
    Calls Tryz.prog 14 #[.pointer (some ⟨x, 0, none⟩), .agg y.cells.toArray] w fun e w' => e = .returned (.bool true) ∧ ∃ M' R', Two w0 w' x M' R' ∧ Alike M' R' := by
  have T0 := hide h
  have HA := hide ha
  have PS := hide (fun wx (hp : PAt wx M) => pShow_any M wx hp)
  have RS := hide (fun wx (hr : RefAt wx R) => rShow_any R wx hr)
  rw [ha.state (by have := h.r.del; have := h.r.parts1; omega)] at RS
  simp only [stCells] at PS RS
  clear h ha
  obtain ⟨kind, a, b, c, ⟨⟨ra, rn, rc⟩, ⟨wa, wn, wc⟩, ⟨ca, cn, cc⟩⟩, t⟩ := y
  simp only at hk
  subst hk
  show Calls Tryz.prog 14 #[.pointer (some ⟨x, 0, none⟩), .agg #[.int .i64 3, .int .i64 a, .int .i64 b, .int .i64 c, .slice ra rn rc, .slice wa wn wc, .slice ca cn cc]] w _
  have T1 := hide (T0.out.on (below_alloc1 w (.cells #[.int .i64 3, .int .i64 a, .int .i64 b, .int .i64 c, .slice ra rn rc, .slice wa wn wc, .slice ca cn cc] 35)))
  have hxl := T0.out.pair.lt
  have x0 := T0.out.pair.cell' (i := 0) rfl
  generalize (M.recs.length : Nat) = n1 at *
  generalize (M.ends.length : Nat) = n2 at *
  generalize (M.taken : Nat) = n3 at *
  go_enter Tryz.func14, Tryz.ntmps14
  go_wp2_with fail
  refine (PS.out _ T1.out.p).mono ?_
  rintro e w1 ⟨rfl, hb1⟩
  have T2 := hide (T1.out.on hb1)
  clear hb1 T1 x0 T0 hxl
  have S1 := hide (rowAt_alloc w1 [.int .i64 n1, .int .i64 n2, .int .i64 0, .int .i64 0, .int .i64 0, .int .i64 n3, .int .i64 0] 73)
  have T3 := hide (T2.out.on (below_alloc1 w1 (.cells #[.int .i64 n1, .int .i64 n2, .int .i64 0, .int .i64 0, .int .i64 0, .int .i64 n3, .int .i64 0] 73)))
  have x1 := T2.out.pair.cell' (i := 1) rfl
  have hxl := T2.out.pair.lt
  go_wp2_with fail
  refine (RS.out _ T3.out.r).mono ?_
  rintro e w2 ⟨rfl, hb2⟩
  have T4 := hide (T3.out.on hb2)
  have S2 := hide (S1.out.below' hb2)
  clear hb2 T3 T2 x1 hxl S1 PS RS
  have y0 := S2.out.cell' (i := 0) rfl
  have y1 := S2.out.cell' (i := 1) rfl
  have y2 := S2.out.cell' (i := 2) rfl
  have y3 := S2.out.cell' (i := 3) rfl
  have y4 := S2.out.cell' (i := 4) rfl
  have y5 := S2.out.cell' (i := 5) rfl
  have y6 := S2.out.cell' (i := 6) rfl
  have hl := S2.out.lt
  have T5 := hide (T4.out.on (below_alloc1 w2 (.cells #[.int .i64 n1, .int .i64 n2, .int .i64 0, .int .i64 0, .int .i64 0, .int .i64 n3, .int .i64 0] 73)))
  go_wp2
  go_ret
  exact ⟨by simp, M, R, T5.out, HA.out⟩

set_option maxHeartbeats 4000000 in
set_option maxRecDepth 100000 in
theorem play_none (w0 w : World) (x : Nat) (M : PM) (R : RM) (h : Two w0 w x M R) (ha : Alike M R) (y : OpV) (hk : y.kind ≤ 0) :
    Calls Tryz.prog 14 #[.pointer (some ⟨x, 0, none⟩), .agg y.cells.toArray] w fun e w' => e = .returned (.bool true) ∧ ∃ M' R', Two w0 w' x M' R' ∧ Alike M' R' := by
  obtain ⟨kind, a, b, c, ⟨⟨ra, rn, rc⟩, ⟨wa, wn, wc⟩, ⟨ca, cn, cc⟩⟩, t⟩ := y
  simp only at hk
  show Calls Tryz.prog 14 #[.pointer (some ⟨x, 0, none⟩), .agg #[.int .i64 kind, .int .i64 a, .int .i64 b, .int .i64 c, .slice ra rn rc, .slice wa wn wc, .slice ca cn cc]] w _
  have T1 := hide (h.on (below_alloc1 w (.cells #[.int .i64 kind, .int .i64 a, .int .i64 b, .int .i64 c, .slice ra rn rc, .slice wa wn wc, .slice ca cn cc] 35)))
  have HA := hide ha
  clear h ha
  have e1 : ¬ kind = 1 := by omega
  have e2 : ¬ kind = 2 := by omega
  have e3 : ¬ kind = 3 := by omega
  have e4 : ¬ kind = 4 := by omega
  have e5 : ¬ kind = 5 := by omega
  have e6 : ¬ kind = 6 := by omega
  have e7 : ¬ kind = 7 := by omega
  have e8 : ¬ kind = 8 := by omega
  have e9 : ¬ kind = 9 := by omega
  go_enter Tryz.func14, Tryz.ntmps14
  go_wp2
  go_ret
  exact ⟨rfl, M, R, T1.out, HA.out⟩

/-- A step of Entries. -/
theorem play_any (w0 w : World) (x : Nat) (M : PM) (R : RM) (h : Two w0 w x M R) (ha : Alike M R) (y : OpV) (hx : TxAt w0 y.hd y.t) (hn : y.hd.nilOk) (hk : y.kind ≤ 3) :
    Calls Tryz.prog 14 #[.pointer (some ⟨x, 0, none⟩), .agg y.cells.toArray] w fun e w' => e = .returned (.bool true) ∧ ∃ M' R', Two w0 w' x M' R' ∧ Alike M' R' := by
  by_cases h1 : y.kind = 1
  · exact play_submit w0 w x M R h ha y hx hn h1
  · by_cases h2 : y.kind = 2
    · exact play_cut w0 w x M R h ha y h2
    · by_cases h3 : y.kind = 3
      · exact play_show w0 w x M R h ha y h3
      · exact play_none w0 w x M R h ha y (by omega)

end Go.Proofs.YtlheloogmgmjnaaGreat
