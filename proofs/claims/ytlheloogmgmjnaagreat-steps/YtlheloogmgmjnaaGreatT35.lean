import Derived.Test.YtlheloogmgmjnaaGreatT33
import Derived.Test.YtlheloogmgmjnaaGreatT34
import Derived.Test.YtlheloogmgmjnaaGreatT32
import Derived.Test.YtlheloogmgmjnaaGreatT27
import Derived.Test.YtlheloogmgmjnaaGreatT16
import Derived.Test.YtlheloogmgmjnaaGreatT26
import Derived.Test.YtlheloogmgmjnaaGreatT07
import Derived.Test.YtlheloogmgmjnaaGreatT28
import Derived.BigQuiet
namespace Go.Proofs.YtlheloogmgmjnaaGreat
open Go.RowKit

theorem sCut_both (M : SM) (R : RM) (ha : Rel M R) (w : World) (h : SAt w M) :
    Calls Tryz.prog 37 #[.pointer (some ⟨M.b, 0, none⟩)] w fun e w' => ∃ M' : SM, e = .returned (.int .i64 M'.ends.length) ∧ SAt w' M' ∧ M'.b = M.b ∧ (¬ M.closed < M.recs.length → M' = M) ∧ (M.closed < M.recs.length → ∃ s, M' = M.withEnd s) ∧ Chg w w' (fun k => k ∈ M.mut) ∧ (∀ k ∈ M'.foot, k ∈ M.foot ∨ w.heap.size ≤ k) := by
  have hcl : M.closed ≤ M.recs.length := by rw [ha.closed, ha.txns]; exact ha.closedle
  have hel : M.ends.length ≤ M.closed := by rw [ha.closed, ha.ends]; exact ha.ends_closed
  by_cases hlt : M.closed < M.recs.length
  · refine (sCut_yes M w h hcl (by omega) hlt).mono ?_
    rintro e w' ⟨s, rfl, hp, hc, hf⟩
    exact ⟨_, by simp [SM.withEnd], hp, rfl, fun hn => absurd hlt hn, fun _ => ⟨s, rfl⟩, hc, foot_withEnd hf⟩
  · refine (sCut_no M w h hcl hlt).mono ?_
    rintro e w' ⟨rfl, n, rfl⟩
    exact ⟨M, rfl, h.below (below_drewN (Below.refl _ _) n), rfl, fun _ => rfl, fun hn => absurd hn hlt, Chg.drewN _ _ _, fun k hk => Or.inl hk⟩

theorem rel_cut_both {M M' : SM} {R R' : RM} (h : Rel M R) (a1 : ¬ M.closed < M.recs.length → M' = M) (a2 : M.closed < M.recs.length → ∃ s, M' = M.withEnd s) (b1 : ¬ R.closed < R.tasks.length → R' = R) (b2 : R.closed < R.tasks.length → ∃ s, R' = R.withEnd s) : Rel M' R' := by
  by_cases hlt : M.closed < M.recs.length
  · obtain ⟨s, rfl⟩ := a2 hlt
    obtain ⟨s', rfl⟩ := b2 (by rw [← h.closed, ← h.txns]; exact hlt)
    exact rel_close h s s' (by rw [← h.closed, ← h.txns]; exact hlt)
  · rw [a1 hlt, b1 (by rw [← h.closed, ← h.txns]; exact hlt)]
    exact h

set_option maxHeartbeats 4000000 in
set_option maxRecDepth 100000 in
theorem splay_submit (w0 w : World) (x : Nat) (M : SM) (R : RM) (h : TwoS w0 w x M R) (ha : Rel M R) (y : OpV) (hx : TxAt w0 y.hd y.t) (hn : y.hd.nilOk) (hk : y.kind = 1) :
    Calls Tryz.prog 14 #[.pointer (some ⟨x, 0, none⟩), .agg y.cells.toArray] w fun e w' => e = .returned (.bool true) ∧ ∃ M' R', TwoS w0 w' x M' R' ∧ Rel M' R' := by
  have SU := hide (fun wx (hb : Below w.heap.size w wx) => ssubmit_any w0 wx x M R (h.on hb) ha y.hd y.t hx hn)
  clear h ha hx hn
  obtain ⟨kind, a, b, c, ⟨⟨ra, rn, rc⟩, ⟨wa, wn, wc⟩, ⟨ca, cn, cc⟩⟩, t⟩ := y
  simp only at hk
  subst hk
  simp only [TH.cells] at SU
  show Calls Tryz.prog 14 #[.pointer (some ⟨x, 0, none⟩), .agg #[.int .i64 1, .int .i64 a, .int .i64 b, .int .i64 c, .slice ra rn rc, .slice wa wn wc, .slice ca cn cc]] w _
  go_enter Tryz.func14, Tryz.ntmps14
  go_wp2_with fail
  refine (SU.out _ (below_alloc1 _ _)).mono ?_
  rintro e w1 ⟨rfl, h1⟩
  have H1 := hide h1
  clear h1 SU
  go_wp2
  go_ret
  exact ⟨rfl, H1.out⟩

set_option maxHeartbeats 4000000 in
set_option maxRecDepth 100000 in
theorem splay_cut (w0 w : World) (x : Nat) (M : SM) (R : RM) (h : TwoS w0 w x M R) (ha : Rel M R) (y : OpV) (hk : y.kind = 2) :
    Calls Tryz.prog 14 #[.pointer (some ⟨x, 0, none⟩), .agg y.cells.toArray] w fun e w' => e = .returned (.bool true) ∧ ∃ M' R', TwoS w0 w' x M' R' ∧ Rel M' R' := by
  have T0 := hide h
  have HA := hide ha
  clear h ha
  obtain ⟨kind, a, b, c, ⟨⟨ra, rn, rc⟩, ⟨wa, wn, wc⟩, ⟨ca, cn, cc⟩⟩, t⟩ := y
  simp only at hk
  subst hk
  show Calls Tryz.prog 14 #[.pointer (some ⟨x, 0, none⟩), .agg #[.int .i64 2, .int .i64 a, .int .i64 b, .int .i64 c, .slice ra rn rc, .slice wa wn wc, .slice ca cn cc]] w _
  have T1 := hide (T0.out.on (below_alloc1 w (.cells #[.int .i64 2, .int .i64 a, .int .i64 b, .int .i64 c, .slice ra rn rc, .slice wa wn wc, .slice ca cn cc] 35)))
  have hxl := T0.out.pair.lt
  have x0 := T0.out.pair.cell' (i := 0) rfl
  have PC := hide (sCut_both M R HA.out _ T1.out.p)
  go_enter Tryz.func14, Tryz.ntmps14
  go_wp2_with fail
  refine PC.out.mono ?_
  rintro e w1 ⟨M', rfl, hp, hb, a1, a2, hc, hf⟩
  have T2 := hide (T1.out.prog hp hb hc hf)
  have RC := hide (rCut_both R w1 T2.out.r)
  have x1 := T2.out.pair.cell' (i := 1) rfl
  have AA := hide (fun R' => rel_cut_both (R' := R') HA.out a1 a2)
  clear hp hb a1 a2 hc hf PC T1 x0
  go_wp2_with fail
  refine RC.out.mono ?_
  rintro e w2 ⟨R', rfl, hr, hb, b1, b2, hc, hf⟩
  have T3 := hide (T2.out.ref hr hb hc hf)
  have A3 := hide (AA.out R' b1 b2)
  have he : (M'.ends.length : Int) = (R'.ends.length : Int) := by rw [A3.out.ends]
  clear hr hb b1 b2 hc hf RC AA T2 x1
  rw [he]
  go_wp2
  go_ret
  exact ⟨by simp, M', R', T3.out, A3.out⟩

set_option maxHeartbeats 4000000 in
set_option maxRecDepth 100000 in
theorem splay_show (w0 w : World) (x : Nat) (M : SM) (R : RM) (h : TwoS w0 w x M R) (ha : Rel M R) (y : OpV) (hk : y.kind = 3) :
    Calls Tryz.prog 14 #[.pointer (some ⟨x, 0, none⟩), .agg y.cells.toArray] w fun e w' => e = .returned (.bool true) ∧ ∃ M' R', TwoS w0 w' x M' R' ∧ Rel M' R' := by
  have T0 := hide h
  have HA := hide ha
  have hdl : ∀ m ∈ M.mks, m.dealt ≤ 1000 := by
    intro m hm
    have h1 : m.dealt ∈ R.dealt := by rw [← ha.dealt]; exact List.mem_map.2 ⟨m, hm, rfl⟩
    have h2 := ha.dealtle _ h1
    have h3 := ha.closedle
    have h4 := h.r.txns
    omega
  have PS := hide (fun wx (hp : SAt wx M) => sShow_any M wx hp hdl (fun n => ha.live_bound hp h.r.txns n))
  have RS := hide (fun wx (hr : RefAt wx R) => rShow_any R wx hr)
  rw [ha.state h.p] at RS
  simp only [stCells] at PS RS
  clear h ha hdl
  obtain ⟨kind, a, b, c, ⟨⟨ra, rn, rc⟩, ⟨wa, wn, wc⟩, ⟨ca, cn, cc⟩⟩, t⟩ := y
  simp only at hk
  subst hk
  show Calls Tryz.prog 14 #[.pointer (some ⟨x, 0, none⟩), .agg #[.int .i64 3, .int .i64 a, .int .i64 b, .int .i64 c, .slice ra rn rc, .slice wa wn wc, .slice ca cn cc]] w _
  have T1 := hide (T0.out.on (below_alloc1 w (.cells #[.int .i64 3, .int .i64 a, .int .i64 b, .int .i64 c, .slice ra rn rc, .slice wa wn wc, .slice ca cn cc] 35)))
  have hxl := T0.out.pair.lt
  have x0 := T0.out.pair.cell' (i := 0) rfl
  generalize (M.recs.length : Nat) = n1 at *
  generalize (M.ends.length : Nat) = n2 at *
  generalize (M.ready : Nat) = n3 at *
  generalize (M.done : Nat) = n4 at *
  generalize (M.mark : Nat) = n5 at *
  generalize (M.taken : Nat) = n6 at *
  generalize (M.live : Nat) = n7 at *
  go_enter Tryz.func14, Tryz.ntmps14
  go_wp2_with fail
  refine (PS.out _ T1.out.p).mono ?_
  rintro e w1 ⟨rfl, hb1⟩
  have T2 := hide (T1.out.on hb1)
  clear hb1 T1 x0 T0 hxl
  have S1 := hide (rowAt_alloc w1 [.int .i64 n1, .int .i64 n2, .int .i64 n3, .int .i64 n4, .int .i64 n5, .int .i64 n6, .int .i64 n7] 73)
  have T3 := hide (T2.out.on (below_alloc1 w1 (.cells #[.int .i64 n1, .int .i64 n2, .int .i64 n3, .int .i64 n4, .int .i64 n5, .int .i64 n6, .int .i64 n7] 73)))
  have x1 := T2.out.pair.cell' (i := 1) rfl
  have hxl := T2.out.pair.lt
  go_wp2_with fail
  refine (RS.out _ T3.out.r).mono ?_
  rintro e w2 ⟨rfl, hb2⟩
  have T4 := hide (T3.out.on hb2)
  have S2 := hide (S1.out.below' hb2)
  clear hb2 T3 T2 x1 hxl S1 PS RS
  have y0 := S2.out.cell' (i := 0) rfl
  have y1 := S2.out.cell' (i := 1) rfl
  have y2 := S2.out.cell' (i := 2) rfl
  have y3 := S2.out.cell' (i := 3) rfl
  have y4 := S2.out.cell' (i := 4) rfl
  have y5 := S2.out.cell' (i := 5) rfl
  have y6 := S2.out.cell' (i := 6) rfl
  have hl := S2.out.lt
  have T5 := hide (T4.out.on (below_alloc1 w2 (.cells #[.int .i64 n1, .int .i64 n2, .int .i64 n3, .int .i64 n4, .int .i64 n5, .int .i64 n6, .int .i64 n7] 73)))
  go_wp2
  go_ret
  exact ⟨by simp, M, R, T5.out, HA.out⟩

set_option maxHeartbeats 4000000 in
set_option maxRecDepth 100000 in
theorem splay_none (w0 w : World) (x : Nat) (M : SM) (R : RM) (h : TwoS w0 w x M R) (ha : Rel M R) (y : OpV) (hk : y.kind ≤ 0) :
    Calls Tryz.prog 14 #[.pointer (some ⟨x, 0, none⟩), .agg y.cells.toArray] w fun e w' => e = .returned (.bool true) ∧ ∃ M' R', TwoS w0 w' x M' R' ∧ Rel M' R' := by
  obtain ⟨kind, a, b, c, ⟨⟨ra, rn, rc⟩, ⟨wa, wn, wc⟩, ⟨ca, cn, cc⟩⟩, t⟩ := y
  simp only at hk
  show Calls Tryz.prog 14 #[.pointer (some ⟨x, 0, none⟩), .agg #[.int .i64 kind, .int .i64 a, .int .i64 b, .int .i64 c, .slice ra rn rc, .slice wa wn wc, .slice ca cn cc]] w _
  have T1 := hide (h.on (below_alloc1 w (.cells #[.int .i64 kind, .int .i64 a, .int .i64 b, .int .i64 c, .slice ra rn rc, .slice wa wn wc, .slice ca cn cc] 35)))
  have HA := hide ha
  clear h ha
  have e1 : ¬ kind = 1 := by omega
  have e2 : ¬ kind = 2 := by omega
  have e3 : ¬ kind = 3 := by omega
  have e4 : ¬ kind = 4 := by omega
  have e5 : ¬ kind = 5 := by omega
  have e6 : ¬ kind = 6 := by omega
  have e7 : ¬ kind = 7 := by omega
  have e8 : ¬ kind = 8 := by omega
  have e9 : ¬ kind = 9 := by omega
  go_enter Tryz.func14, Tryz.ntmps14
  go_wp2
  go_ret
  exact ⟨rfl, M, R, T1.out, HA.out⟩

end Go.Proofs.YtlheloogmgmjnaaGreat

namespace Go.Proofs.YtlheloogmgmjnaaGreat
open Go.RowKit

theorem Rel.result {M : SM} {R : RM} {X : Nat → Prop} (h : Rel M R X) (n : Int) : M.result n = R.result n := by
  unfold SM.result RM.result
  rw [h.txns]
  by_cases hn : 1 ≤ n ∧ n ≤ (R.tasks.length : Int)
  · rw [if_pos hn, if_pos hn]
    have hl : n.toNat - 1 < R.tasks.length := by omega
    have hl' : n.toNat - 1 < M.recs.length := by rw [h.txns]; exact hl
    obtain ⟨t, ht, he, hr⟩ := h.recs _ _ (List.getElem?_eq_getElem hl')
    rw [List.getElem?_eq_getElem hl', ht]
    simp only [he]
    split
    · rename_i hq
      obtain ⟨r1, r2⟩ := hr (he.trans hq)
      rw [r1, r2]
    · rfl
  · rw [if_neg hn, if_neg hn]
theorem bel24_iff (k : Int) : bel k 24 = false ↔ (k < 0 ∨ 24 ≤ k) := by
  unfold bel
  simp
  omega
theorem Rel.unread {M : SM} {R : RM} {X : Nat → Prop} (h : Rel M R X) (k n : Int) : M.unr k n = R.unread k n := by
  unfold SM.unr RM.unread
  have e1 : doneN M.recs = R.done := h.done
  have e2 : lastOfN M.ends (wholeB M.ends (doneN M.recs)) = R.mark := h.mark
  rw [e2, e1, h.txns]
  simp only [bel24_iff]
/-- What Read finds. -/
theorem Rel.behind {M : SM} {R : RM} {X : Nat → Prop} (h : Rel M R X) {k m : Nat} (hk : k < 24) (hm : m ≤ R.done) :
    behindV (M.vs k) m (M.vs k).length = (((behindTo (R.tasks.map (·.tx)) m).getD k Slot.none).v, ((behindTo (R.tasks.map (·.tx)) m).getD k Slot.none).th, true) := by
  have hml : m ≤ R.tasks.length := Nat.le_trans hm R.done_le
  have hend : ∀ i (hi : i < m), (R.tasks[i]'(by omega)).ended = true := by
    intro i hi
    obtain ⟨x, hx, hp⟩ := takeWhile_lt (fun t : Tsk => t.ended) R.tasks i (by show i < R.done; omega)
    rw [List.getElem?_eq_getElem (show i < R.tasks.length by omega)] at hx
    rw [Option.some.inj hx]; exact hp
  have hmt : m ≤ R.taken := by
    by_cases q : m ≤ R.taken
    · exact q
    · have h1 := h.fresh R.taken _ (List.getElem?_eq_getElem (show R.taken < R.tasks.length by omega)) (Nat.le_refl _)
      rw [hend R.taken (by omega)] at h1; cases h1
  have hd := h.taken_dealt _ (h.dealt_get k)
  have hw : ∀ j, j ≤ m → waitsIn R.tasks (k : Int) j = false := by
    intro j
    induction j with
    | zero => intro _; rfl
    | succ j ih =>
      intro hj
      rw [waitsIn_succ (show j < R.tasks.length by omega), hend j (by omega)]
      split
      · simp only [Bool.true_eq_false, if_false]
        split
        · rfl
        · exact ih (by omega)
      · exact ih (by omega)
  rw [h.vs k, behindV_cut R.tasks k m _ (by omega), behindTo_value R.tasks h.serial h.chk k hk m hml]
  exact (behindV_value R.tasks k h.gone (m : Int) m hml (by omega)).2 (hw m (Nat.le_refl _))

/-- What Read answers, in both. -/
theorem read_both (M : SM) (R : RM) (ha : Rel M R) (hl : R.tasks.length ≤ 150) (k n : Int) : ∃ (v : Int) (th : Bool) (e : Int),
    (∀ w, SAt w M → Calls Tryz.prog 58 #[.pointer (some ⟨M.b, 0, none⟩), .int .i64 k, .int .i64 n] w fun e' w' => e' = .returned (.tuple #[.int .i64 v, .bool th, .int .i64 e]) ∧ Below w.heap.size w w') ∧
    (∀ w, RefAt w R → Calls Tryz.prog 83 #[.pointer (some ⟨R.b, 0, none⟩), .int .i64 k, .int .i64 n] w fun e' w' => e' = .returned (.tuple #[.int .i64 v, .bool th, .int .i64 e]) ∧ Below w.heap.size w w') := by
  have hu := ha.unread k n
  by_cases h0 : R.unread k n = 0
  · have hz := hu.trans h0
    obtain ⟨kn, rfl, hk⟩ := unr_key hz
    have h0' := h0
    unfold RM.unread at h0'
    rw [if_neg (by omega)] at h0'
    split at h0'
    · omega
    · split at h0'
      · omega
      · split at h0'
        · omega
        · obtain ⟨m, rfl⟩ : ∃ m : Nat, n = m := ⟨n.toNat, by omega⟩
          refine ⟨_, _, 0, fun w h => pRead_ok M w h kn hk m hz (by have := ha.vs_le hl kn; omega) (ha.sorted kn), fun w h => ?_⟩
          have hb := ha.behind hk (show m ≤ R.done by omega)
          rw [hb, ← behindTo_map_take]
          exact rRead_ok R w h kn m hk (by omega) (by omega)
  · refine ⟨0, false, R.unread k n, fun w h => ?_, fun w h => ?_⟩
    · have := pRead_no M w h k n (by rw [hu]; exact h0)
      rw [hu] at this
      refine this.mono ?_
      rintro e w' ⟨rfl, rfl⟩
      exact ⟨rfl, Below.refl _ _⟩
    · refine (rRead_no R w h k n h0).mono ?_
      rintro e w' ⟨rfl, rfl⟩
      exact ⟨rfl, Below.refl _ _⟩

set_option maxHeartbeats 4000000 in
set_option maxRecDepth 100000 in
theorem splay_step (w0 w : World) (x : Nat) (M : SM) (R : RM) (h : TwoS w0 w x M R) (ha : Rel M R) (y : OpV) (hk : y.kind = 4) (hy : y.a ≠ (R.parts : Int) + R.doers) :
    Calls Tryz.prog 14 #[.pointer (some ⟨x, 0, none⟩), .agg y.cells.toArray] w fun e w' => e = .returned (.bool true) ∧ ∃ M' R', TwoS w0 w' x M' R' ∧ Rel M' R' := by
  have T0 := hide h
  have PS := hide (fun wx (hp : SAt wx M) => sStep_any M R ha wx hp h.r.txns y.a hy)
  have RS := hide (fun wx (hr : RefAt wx R) => rStep_any M R ha wx hr y.a hy)
  have RF := hide (R.step_foot y.a)
  clear h ha hy
  obtain ⟨kind, a, b, c, ⟨⟨ra, rn, rc⟩, ⟨wa, wn, wc⟩, ⟨ca, cn, cc⟩⟩, t⟩ := y
  simp only at hk
  subst hk
  show Calls Tryz.prog 14 #[.pointer (some ⟨x, 0, none⟩), .agg #[.int .i64 4, .int .i64 a, .int .i64 b, .int .i64 c, .slice ra rn rc, .slice wa wn wc, .slice ca cn cc]] w _
  have T1 := hide (T0.out.on (below_alloc1 w (.cells #[.int .i64 4, .int .i64 a, .int .i64 b, .int .i64 c, .slice ra rn rc, .slice wa wn wc, .slice ca cn cc] 35)))
  have A1 := hide (rowAt_alloc w [.int .i64 4, .int .i64 a, .int .i64 b, .int .i64 c, .slice ra rn rc, .slice wa wn wc, .slice ca cn cc] 35)
  have FA : Hid (w.heap.size ≠ x ∧ w.heap.size ∉ M.foot ∧ w.heap.size ∉ R.foot) := hide (T0.out.far (Nat.le_refl _)).2
  simp only at PS RS RF
  generalize hst : R.step a = st at *
  obtain ⟨z, R'⟩ := st
  simp only at PS RS RF
  clear hst
  go_enter Tryz.func14, Tryz.ntmps14
  go_wp2
  change Hid (RowAt (w.alloc (.cells #[.int .i64 4, .int .i64 a, .int .i64 b, .int .i64 c, .slice ra rn rc, .slice wa wn wc, .slice ca cn cc] 35)) w.heap.size 35 [.int .i64 4, .int .i64 a, .int .i64 b, .int .i64 c, .slice ra rn rc, .slice wa wn wc, .slice ca cn cc]) at A1
  generalize w.alloc (.cells #[.int .i64 4, .int .i64 a, .int .i64 b, .int .i64 c, .slice ra rn rc, .slice wa wn wc, .slice ca cn cc] 35) = W at *
  have x0 := T1.out.pair.cell' (i := 0) rfl
  have a1 := A1.out.cell' (i := 1) rfl
  refine wp_region_U (L := #[true, true, true, true, true, true, false, false]) (S := (fun wz => Below W.heap.size W wz)) (by kernel_rfl) (Below.refl _ _).drew ?_
  refine wpU_takeC (i := 0) (v := ?_) rfl (by kernel_rfl) (by kernel_rfl) (by kernel_rfl) (by kernel_rfl) (by kernel_rfl) (fun _ _ _ h => h) (by rfl) ?_ ?_
  rotate_left
  · intro wx hS; refine lands_value ?_ hS; go_simp <;> with_reducible rfl
  try simp only [List.getElem_toArray, List.getElem_cons_zero, Act.put, List.setIfInBounds_toArray, List.set_cons_zero, List.set_cons_succ]
  refine wpU_takeC (i := 1) (v := ?_) rfl (by kernel_rfl) (by kernel_rfl) (by kernel_rfl) (by kernel_rfl) (by kernel_rfl) (fun _ _ _ h => h) (by rfl) ?_ ?_
  rotate_left
  · intro wx hS; refine lands_value ?_ hS; go_simp <;> with_reducible rfl
  try simp only [List.getElem_toArray, List.getElem_cons_zero, List.getElem_cons_succ, Act.put, List.setIfInBounds_toArray, List.set_cons_zero, List.set_cons_succ]
  refine wpU_takeC (i := 2) (v := ?_) rfl (by kernel_rfl) (by kernel_rfl) (by kernel_rfl) (by kernel_rfl) (by kernel_rfl) (fun _ _ _ h => h) (by rfl) ?_ ?_
  rotate_left
  · intro wx hS; refine lands_value ?_ hS; go_simp <;> with_reducible rfl
  try simp only [List.getElem_toArray, List.getElem_cons_zero, List.getElem_cons_succ, Act.put, List.setIfInBounds_toArray, List.set_cons_zero, List.set_cons_succ]
  refine wpU_takeC (i := 3) (v := ?_) rfl (by kernel_rfl) (by kernel_rfl) (by kernel_rfl) (by kernel_rfl) (by kernel_rfl) (fun _ _ _ h => h) (by rfl) ?_ ?_
  rotate_left
  · intro wx hS; have c0 := cell_on x0 hS; refine lands_value ?_ hS; go_simp <;> with_reducible rfl
  try simp only [List.getElem_toArray, List.getElem_cons_zero, List.getElem_cons_succ, Act.put, List.setIfInBounds_toArray, List.set_cons_zero, List.set_cons_succ]
  refine wpU_takeC (i := 4) (v := ?_) rfl (by kernel_rfl) (by kernel_rfl) (by kernel_rfl) (by kernel_rfl) (by kernel_rfl) (fun _ _ _ h => h) (by rfl) ?_ ?_
  rotate_left
  · intro wx hS; refine lands_value ?_ hS; go_simp <;> with_reducible rfl
  try simp only [List.getElem_toArray, List.getElem_cons_zero, List.getElem_cons_succ, Act.put, List.setIfInBounds_toArray, List.set_cons_zero, List.set_cons_succ]
  refine wpU_takeC (i := 5) (v := ?_) rfl (by kernel_rfl) (by kernel_rfl) (by kernel_rfl) (by kernel_rfl) (by kernel_rfl) (fun _ _ _ h => h) (by rfl) ?_ ?_
  rotate_left
  · intro wx hS; have c1 := cell_on a1 hS; refine lands_value ?_ hS; go_simp <;> with_reducible rfl
  try simp only [List.getElem_toArray, List.getElem_cons_zero, List.getElem_cons_succ, Act.put, List.setIfInBounds_toArray, List.set_cons_zero, List.set_cons_succ]
  refine wpU_leaf' _ (by kernel_rfl) ?_
  intro wx hS
  refine wpAny_one (n := 6) (by kernel_rfl) rfl (by rfl) (fun K hK => ?_)
  simp only [List.getElem_toArray, List.getElem_cons_zero, List.getElem_cons_succ]
  go_simp
  refine (PS.out wx (T1.out.on hS).p).mono ?_
  rintro e w2 ⟨M', rfl, h2, hb2, hr2, hc2, hf2⟩
  have T2 := hide ((T1.out.on hS).prog h2 hb2 hc2 hf2)
  have R2 := hide hr2
  have A2 := hide ((A1.out.below' hS).chg hc2 (fun hk => FA.out.2.1 (SM.mem_foot.2 (Or.inl hk))))
  have F2 : Hid (w.heap.size ∉ M'.foot) := hide (fun hk => (hf2 _ hk).elim FA.out.2.1 (fun hq => by have := (A1.out.below' hS).lt; omega))
  refine hK.out _ _ ?_
  clear hK K h2 hb2 hr2 hc2 hf2 hS x0 a1 PS
  refine wpAny_last (n := 7) (by kernel_rfl) (by kernel_rfl) rfl (by rfl) ?_
  simp only [List.getElem_toArray, List.getElem_cons_zero, List.getElem_cons_succ]
  go_simp
  have x1 := T2.out.pair.cell' (i := 1) rfl
  have a2 := A2.out.cell' (i := 1) rfl
  go_wp2
  refine wp_region_U (L := #[true, true, true, true, true, true, false, false]) (S := (fun wz => Below w2.heap.size w2 wz)) (by kernel_rfl) (Below.refl _ _).drew ?_
  refine wpU_takeC (i := 0) (v := ?_) rfl (by kernel_rfl) (by kernel_rfl) (by kernel_rfl) (by kernel_rfl) (by kernel_rfl) (fun _ _ _ h => h) (by rfl) ?_ ?_
  rotate_left
  · intro wy hS; refine lands_value ?_ hS; go_simp <;> with_reducible rfl
  try simp only [List.getElem_toArray, List.getElem_cons_zero, Act.put, List.setIfInBounds_toArray, List.set_cons_zero, List.set_cons_succ]
  refine wpU_takeC (i := 1) (v := ?_) rfl (by kernel_rfl) (by kernel_rfl) (by kernel_rfl) (by kernel_rfl) (by kernel_rfl) (fun _ _ _ h => h) (by rfl) ?_ ?_
  rotate_left
  · intro wy hS; refine lands_value ?_ hS; go_simp <;> with_reducible rfl
  try simp only [List.getElem_toArray, List.getElem_cons_zero, List.getElem_cons_succ, Act.put, List.setIfInBounds_toArray, List.set_cons_zero, List.set_cons_succ]
  refine wpU_takeC (i := 2) (v := ?_) rfl (by kernel_rfl) (by kernel_rfl) (by kernel_rfl) (by kernel_rfl) (by kernel_rfl) (fun _ _ _ h => h) (by rfl) ?_ ?_
  rotate_left
  · intro wy hS; refine lands_value ?_ hS; go_simp <;> with_reducible rfl
  try simp only [List.getElem_toArray, List.getElem_cons_zero, List.getElem_cons_succ, Act.put, List.setIfInBounds_toArray, List.set_cons_zero, List.set_cons_succ]
  refine wpU_takeC (i := 3) (v := ?_) rfl (by kernel_rfl) (by kernel_rfl) (by kernel_rfl) (by kernel_rfl) (by kernel_rfl) (fun _ _ _ h => h) (by rfl) ?_ ?_
  rotate_left
  · intro wy hS; have c0 := cell_on x1 hS; refine lands_value ?_ hS; go_simp <;> with_reducible rfl
  try simp only [List.getElem_toArray, List.getElem_cons_zero, List.getElem_cons_succ, Act.put, List.setIfInBounds_toArray, List.set_cons_zero, List.set_cons_succ]
  refine wpU_takeC (i := 4) (v := ?_) rfl (by kernel_rfl) (by kernel_rfl) (by kernel_rfl) (by kernel_rfl) (by kernel_rfl) (fun _ _ _ h => h) (by rfl) ?_ ?_
  rotate_left
  · intro wy hS; refine lands_value ?_ hS; go_simp <;> with_reducible rfl
  try simp only [List.getElem_toArray, List.getElem_cons_zero, List.getElem_cons_succ, Act.put, List.setIfInBounds_toArray, List.set_cons_zero, List.set_cons_succ]
  refine wpU_takeC (i := 5) (v := ?_) rfl (by kernel_rfl) (by kernel_rfl) (by kernel_rfl) (by kernel_rfl) (by kernel_rfl) (fun _ _ _ h => h) (by rfl) ?_ ?_
  rotate_left
  · intro wy hS; have c1 := cell_on a2 hS; refine lands_value ?_ hS; go_simp <;> with_reducible rfl
  try simp only [List.getElem_toArray, List.getElem_cons_zero, List.getElem_cons_succ, Act.put, List.setIfInBounds_toArray, List.set_cons_zero, List.set_cons_succ]
  refine wpU_leaf' _ (by kernel_rfl) ?_
  intro wy hS
  refine wpAny_one (n := 6) (by kernel_rfl) rfl (by rfl) (fun K hK => ?_)
  simp only [List.getElem_toArray, List.getElem_cons_zero, List.getElem_cons_succ]
  go_simp
  refine (RS.out wy (T2.out.on hS).r).mono ?_
  rintro e w3 ⟨rfl, h3, hc3⟩
  have T3 := hide ((T2.out.on hS).ref h3 RF.out.2 hc3 (fun k hk => Or.inl (by rw [RF.out.1] at hk; exact hk)))
  refine hK.out _ _ ?_
  clear hK K h3 hc3 hS x1 a2 RS
  refine wpAny_last (n := 7) (by kernel_rfl) (by kernel_rfl) rfl (by rfl) ?_
  simp only [List.getElem_toArray, List.getElem_cons_zero, List.getElem_cons_succ]
  go_simp
  go_wp2
  go_ret
  exact ⟨by simp, M', R', T3.out, R2.out⟩

set_option maxHeartbeats 4000000 in
set_option maxRecDepth 100000 in
theorem ask_read (w0 w : World) (x : Nat) (M : SM) (R : RM) (h : TwoS w0 w x M R) (ha : Rel M R) (y : OpV) (hk : y.kind ≠ 5) :
    Calls Tryz.prog 46 #[.pointer (some ⟨x, 0, none⟩), .agg y.cells.toArray] w fun e w' => e = .returned (.bool true) ∧ TwoS w0 w' x M R := by
  have T0 := hide h
  obtain ⟨v, th, en, hp, hr⟩ := read_both M R ha h.r.txns y.a y.b
  have PS := hide hp
  have RS := hide hr
  clear h ha hp hr
  obtain ⟨kind, a, b, c, ⟨⟨ra, rn, rc⟩, ⟨wa, wn, wc⟩, ⟨ca, cn, cc⟩⟩, t⟩ := y
  simp only at hk PS RS
  show Calls Tryz.prog 46 #[.pointer (some ⟨x, 0, none⟩), .agg #[.int .i64 kind, .int .i64 a, .int .i64 b, .int .i64 c, .slice ra rn rc, .slice wa wn wc, .slice ca cn cc]] w _
  have T1 := hide (T0.out.on (below_alloc1 w (.cells #[.int .i64 kind, .int .i64 a, .int .i64 b, .int .i64 c, .slice ra rn rc, .slice wa wn wc, .slice ca cn cc] 35)))
  have A1 := hide (rowAt_alloc w [.int .i64 kind, .int .i64 a, .int .i64 b, .int .i64 c, .slice ra rn rc, .slice wa wn wc, .slice ca cn cc] 35)
  go_enter Tryz.func46, Tryz.ntmps46
  go_wp2
  change Hid (RowAt (w.alloc (.cells #[.int .i64 kind, .int .i64 a, .int .i64 b, .int .i64 c, .slice ra rn rc, .slice wa wn wc, .slice ca cn cc] 35)) w.heap.size 35 [.int .i64 kind, .int .i64 a, .int .i64 b, .int .i64 c, .slice ra rn rc, .slice wa wn wc, .slice ca cn cc]) at A1
  generalize w.alloc (.cells #[.int .i64 kind, .int .i64 a, .int .i64 b, .int .i64 c, .slice ra rn rc, .slice wa wn wc, .slice ca cn cc] 35) = W at *
  have x0 := T1.out.pair.cell' (i := 0) rfl
  have x1 := T1.out.pair.cell' (i := 1) rfl
  have a1 := A1.out.cell' (i := 1) rfl
  have a2 := A1.out.cell' (i := 2) rfl
  refine wp_region_U (L := #[true, true, true, true, true, true, true, true, true, true, true, true, true, true, true, true]) (S := (fun wz => Below W.heap.size W wz)) (by kernel_rfl) (Below.refl _ _).drew ?_
  refine wpU_takeC (i := 0) (v := ?_) rfl (by kernel_rfl) (by kernel_rfl) (by kernel_rfl) (by kernel_rfl) (by kernel_rfl) (fun _ _ _ h => h) (by rfl) ?_ ?_
  rotate_left
  · intro wx hS; refine lands_value ?_ hS; go_simp <;> with_reducible rfl
  try simp only [List.getElem_toArray, List.getElem_cons_zero, Act.put, List.setIfInBounds_toArray, List.set_cons_zero, List.set_cons_succ]
  refine wpU_takeC (i := 1) (v := ?_) rfl (by kernel_rfl) (by kernel_rfl) (by kernel_rfl) (by kernel_rfl) (by kernel_rfl) (fun _ _ _ h => h) (by rfl) ?_ ?_
  rotate_left
  · intro wx hS; refine lands_value ?_ hS; go_simp <;> with_reducible rfl
  try simp only [List.getElem_toArray, List.getElem_cons_zero, List.getElem_cons_succ, Act.put, List.setIfInBounds_toArray, List.set_cons_zero, List.set_cons_succ]
  refine wpU_takeC (i := 2) (v := ?_) rfl (by kernel_rfl) (by kernel_rfl) (by kernel_rfl) (by kernel_rfl) (by kernel_rfl) (fun _ _ _ h => h) (by rfl) ?_ ?_
  rotate_left
  · intro wx hS; refine lands_value ?_ hS; go_simp <;> with_reducible rfl
  try simp only [List.getElem_toArray, List.getElem_cons_zero, List.getElem_cons_succ, Act.put, List.setIfInBounds_toArray, List.set_cons_zero, List.set_cons_succ]
  refine wpU_takeC (i := 3) (v := ?_) rfl (by kernel_rfl) (by kernel_rfl) (by kernel_rfl) (by kernel_rfl) (by kernel_rfl) (fun _ _ _ h => h) (by rfl) ?_ ?_
  rotate_left
  · intro wx hS; have q0 := cell_on x0 hS; refine lands_value ?_ hS; go_simp <;> with_reducible rfl
  try simp only [List.getElem_toArray, List.getElem_cons_zero, List.getElem_cons_succ, Act.put, List.setIfInBounds_toArray, List.set_cons_zero, List.set_cons_succ]
  refine wpU_takeC (i := 4) (v := ?_) rfl (by kernel_rfl) (by kernel_rfl) (by kernel_rfl) (by kernel_rfl) (by kernel_rfl) (fun _ _ _ h => h) (by rfl) ?_ ?_
  rotate_left
  · intro wx hS; refine lands_value ?_ hS; go_simp <;> with_reducible rfl
  try simp only [List.getElem_toArray, List.getElem_cons_zero, List.getElem_cons_succ, Act.put, List.setIfInBounds_toArray, List.set_cons_zero, List.set_cons_succ]
  refine wpU_takeC (i := 5) (v := ?_) rfl (by kernel_rfl) (by kernel_rfl) (by kernel_rfl) (by kernel_rfl) (by kernel_rfl) (fun _ _ _ h => h) (by rfl) ?_ ?_
  rotate_left
  · intro wx hS; have q0 := cell_on a1 hS; refine lands_value ?_ hS; go_simp <;> with_reducible rfl
  try simp only [List.getElem_toArray, List.getElem_cons_zero, List.getElem_cons_succ, Act.put, List.setIfInBounds_toArray, List.set_cons_zero, List.set_cons_succ]
  refine wpU_takeC (i := 6) (v := ?_) rfl (by kernel_rfl) (by kernel_rfl) (by kernel_rfl) (by kernel_rfl) (by kernel_rfl) (fun _ _ _ h => h) (by rfl) ?_ ?_
  rotate_left
  · intro wx hS; refine lands_value ?_ hS; go_simp <;> with_reducible rfl
  try simp only [List.getElem_toArray, List.getElem_cons_zero, List.getElem_cons_succ, Act.put, List.setIfInBounds_toArray, List.set_cons_zero, List.set_cons_succ]
  refine wpU_takeC (i := 7) (v := ?_) rfl (by kernel_rfl) (by kernel_rfl) (by kernel_rfl) (by kernel_rfl) (by kernel_rfl) (fun _ _ _ h => h) (by rfl) ?_ ?_
  rotate_left
  · intro wx hS; have q0 := cell_on a2 hS; refine lands_value ?_ hS; go_simp <;> with_reducible rfl
  try simp only [List.getElem_toArray, List.getElem_cons_zero, List.getElem_cons_succ, Act.put, List.setIfInBounds_toArray, List.set_cons_zero, List.set_cons_succ]
  refine wpU_takeC (i := 8) (v := .tuple #[.int .i64 v, .bool th, .int .i64 en]) rfl (by kernel_rfl) (by kernel_rfl) (by kernel_rfl) (by kernel_rfl) (by kernel_rfl) (fun _ _ _ h => h) (by rfl) ?_ ?_
  · intro wx hS; refine lands_enter (w := wx) (f := 58) (args := #[.pointer (some ⟨M.b, 0, none⟩), .int .i64 a, .int .i64 b]) (by go_simp) ?_; refine (PS.out wx (T1.out.on hS).p).mono ?_; rintro e wz ⟨rfl, hb⟩; exact ⟨rfl, below_on hS hb⟩
  try simp only [List.getElem_toArray, List.getElem_cons_zero, List.getElem_cons_succ, Act.put, List.setIfInBounds_toArray, List.set_cons_zero, List.set_cons_succ]
  refine wpU_takeC (i := 9) (v := ?_) rfl (by kernel_rfl) (by kernel_rfl) (by kernel_rfl) (by kernel_rfl) (by kernel_rfl) (fun _ _ _ h => h) (by rfl) ?_ ?_
  rotate_left
  · intro wx hS; refine lands_value ?_ hS; go_simp <;> with_reducible rfl
  try simp only [List.getElem_toArray, List.getElem_cons_zero, List.getElem_cons_succ, Act.put, List.setIfInBounds_toArray, List.set_cons_zero, List.set_cons_succ]
  refine wpU_takeC (i := 10) (v := ?_) rfl (by kernel_rfl) (by kernel_rfl) (by kernel_rfl) (by kernel_rfl) (by kernel_rfl) (fun _ _ _ h => h) (by rfl) ?_ ?_
  rotate_left
  · intro wx hS; refine lands_value ?_ hS; go_simp <;> with_reducible rfl
  try simp only [List.getElem_toArray, List.getElem_cons_zero, List.getElem_cons_succ, Act.put, List.setIfInBounds_toArray, List.set_cons_zero, List.set_cons_succ]
  refine wpU_takeC (i := 11) (v := ?_) rfl (by kernel_rfl) (by kernel_rfl) (by kernel_rfl) (by kernel_rfl) (by kernel_rfl) (fun _ _ _ h => h) (by rfl) ?_ ?_
  rotate_left
  · intro wx hS; refine lands_value ?_ hS; go_simp <;> with_reducible rfl
  try simp only [List.getElem_toArray, List.getElem_cons_zero, List.getElem_cons_succ, Act.put, List.setIfInBounds_toArray, List.set_cons_zero, List.set_cons_succ]
  refine wpU_takeC (i := 12) (v := ?_) rfl (by kernel_rfl) (by kernel_rfl) (by kernel_rfl) (by kernel_rfl) (by kernel_rfl) (fun _ _ _ h => h) (by rfl) ?_ ?_
  rotate_left
  · intro wx hS; refine lands_value ?_ hS; go_simp <;> with_reducible rfl
  try simp only [List.getElem_toArray, List.getElem_cons_zero, List.getElem_cons_succ, Act.put, List.setIfInBounds_toArray, List.set_cons_zero, List.set_cons_succ]
  refine wpU_takeC (i := 13) (v := ?_) rfl (by kernel_rfl) (by kernel_rfl) (by kernel_rfl) (by kernel_rfl) (by kernel_rfl) (fun _ _ _ h => h) (by rfl) ?_ ?_
  rotate_left
  · intro wx hS; refine lands_value ?_ hS; go_simp <;> with_reducible rfl
  try simp only [List.getElem_toArray, List.getElem_cons_zero, List.getElem_cons_succ, Act.put, List.setIfInBounds_toArray, List.set_cons_zero, List.set_cons_succ]
  refine wpU_takeC (i := 14) (v := ?_) rfl (by kernel_rfl) (by kernel_rfl) (by kernel_rfl) (by kernel_rfl) (by kernel_rfl) (fun _ _ _ h => h) (by rfl) ?_ ?_
  rotate_left
  · intro wx hS; refine lands_value ?_ hS; go_simp <;> with_reducible rfl
  try simp only [List.getElem_toArray, List.getElem_cons_zero, List.getElem_cons_succ, Act.put, List.setIfInBounds_toArray, List.set_cons_zero, List.set_cons_succ]
  refine wpU_takeC (i := 15) (v := ?_) rfl (by kernel_rfl) (by kernel_rfl) (by kernel_rfl) (by kernel_rfl) (by kernel_rfl) (fun _ _ _ h => h) (by rfl) ?_ ?_
  rotate_left
  · intro wx hS; refine lands_value ?_ hS; go_simp <;> with_reducible rfl
  try simp only [List.getElem_toArray, List.getElem_cons_zero, List.getElem_cons_succ, Act.put, List.setIfInBounds_toArray, List.set_cons_zero, List.set_cons_succ]
  refine wpU_leaf' _ (by kernel_rfl) ?_
  intro wx hS
  refine wpAny_none _ (by kernel_rfl) ?_
  have T2 := hide (T1.out.on hS)
  have y1 := cell_on x1 hS
  have b1 := cell_on a1 hS
  have b2 := cell_on a2 hS
  clear hS x0 x1 a1 a2 PS T1 A1 T0
  try simp only [Act.put]
  go_wp2
  refine wp_region_U (L := #[true, true, true, true, true, true, true, true, true, true, true, true, true, true, true, true]) (S := (fun wz => Below wx.heap.size wx wz)) (by kernel_rfl) (Below.refl _ _).drew ?_
  refine wpU_takeC (i := 0) (v := ?_) rfl (by kernel_rfl) (by kernel_rfl) (by kernel_rfl) (by kernel_rfl) (by kernel_rfl) (fun _ _ _ h => h) (by rfl) ?_ ?_
  rotate_left
  · intro wy hS; refine lands_value ?_ hS; go_simp <;> with_reducible rfl
  try simp only [List.getElem_toArray, List.getElem_cons_zero, Act.put, List.setIfInBounds_toArray, List.set_cons_zero, List.set_cons_succ]
  refine wpU_takeC (i := 1) (v := ?_) rfl (by kernel_rfl) (by kernel_rfl) (by kernel_rfl) (by kernel_rfl) (by kernel_rfl) (fun _ _ _ h => h) (by rfl) ?_ ?_
  rotate_left
  · intro wy hS; refine lands_value ?_ hS; go_simp <;> with_reducible rfl
  try simp only [List.getElem_toArray, List.getElem_cons_zero, List.getElem_cons_succ, Act.put, List.setIfInBounds_toArray, List.set_cons_zero, List.set_cons_succ]
  refine wpU_takeC (i := 2) (v := ?_) rfl (by kernel_rfl) (by kernel_rfl) (by kernel_rfl) (by kernel_rfl) (by kernel_rfl) (fun _ _ _ h => h) (by rfl) ?_ ?_
  rotate_left
  · intro wy hS; refine lands_value ?_ hS; go_simp <;> with_reducible rfl
  try simp only [List.getElem_toArray, List.getElem_cons_zero, List.getElem_cons_succ, Act.put, List.setIfInBounds_toArray, List.set_cons_zero, List.set_cons_succ]
  refine wpU_takeC (i := 3) (v := ?_) rfl (by kernel_rfl) (by kernel_rfl) (by kernel_rfl) (by kernel_rfl) (by kernel_rfl) (fun _ _ _ h => h) (by rfl) ?_ ?_
  rotate_left
  · intro wy hS; have q0 := cell_on y1 hS; refine lands_value ?_ hS; go_simp <;> with_reducible rfl
  try simp only [List.getElem_toArray, List.getElem_cons_zero, List.getElem_cons_succ, Act.put, List.setIfInBounds_toArray, List.set_cons_zero, List.set_cons_succ]
  refine wpU_takeC (i := 4) (v := ?_) rfl (by kernel_rfl) (by kernel_rfl) (by kernel_rfl) (by kernel_rfl) (by kernel_rfl) (fun _ _ _ h => h) (by rfl) ?_ ?_
  rotate_left
  · intro wy hS; refine lands_value ?_ hS; go_simp <;> with_reducible rfl
  try simp only [List.getElem_toArray, List.getElem_cons_zero, List.getElem_cons_succ, Act.put, List.setIfInBounds_toArray, List.set_cons_zero, List.set_cons_succ]
  refine wpU_takeC (i := 5) (v := ?_) rfl (by kernel_rfl) (by kernel_rfl) (by kernel_rfl) (by kernel_rfl) (by kernel_rfl) (fun _ _ _ h => h) (by rfl) ?_ ?_
  rotate_left
  · intro wy hS; have q0 := cell_on b1 hS; refine lands_value ?_ hS; go_simp <;> with_reducible rfl
  try simp only [List.getElem_toArray, List.getElem_cons_zero, List.getElem_cons_succ, Act.put, List.setIfInBounds_toArray, List.set_cons_zero, List.set_cons_succ]
  refine wpU_takeC (i := 6) (v := ?_) rfl (by kernel_rfl) (by kernel_rfl) (by kernel_rfl) (by kernel_rfl) (by kernel_rfl) (fun _ _ _ h => h) (by rfl) ?_ ?_
  rotate_left
  · intro wy hS; refine lands_value ?_ hS; go_simp <;> with_reducible rfl
  try simp only [List.getElem_toArray, List.getElem_cons_zero, List.getElem_cons_succ, Act.put, List.setIfInBounds_toArray, List.set_cons_zero, List.set_cons_succ]
  refine wpU_takeC (i := 7) (v := ?_) rfl (by kernel_rfl) (by kernel_rfl) (by kernel_rfl) (by kernel_rfl) (by kernel_rfl) (fun _ _ _ h => h) (by rfl) ?_ ?_
  rotate_left
  · intro wy hS; have q0 := cell_on b2 hS; refine lands_value ?_ hS; go_simp <;> with_reducible rfl
  try simp only [List.getElem_toArray, List.getElem_cons_zero, List.getElem_cons_succ, Act.put, List.setIfInBounds_toArray, List.set_cons_zero, List.set_cons_succ]
  refine wpU_takeC (i := 8) (v := .tuple #[.int .i64 v, .bool th, .int .i64 en]) rfl (by kernel_rfl) (by kernel_rfl) (by kernel_rfl) (by kernel_rfl) (by kernel_rfl) (fun _ _ _ h => h) (by rfl) ?_ ?_
  · intro wy hS; refine lands_enter (w := wy) (f := 83) (args := #[.pointer (some ⟨R.b, 0, none⟩), .int .i64 a, .int .i64 b]) (by go_simp) ?_; refine (RS.out wy (T2.out.on hS).r).mono ?_; rintro e wz ⟨rfl, hb⟩; exact ⟨rfl, below_on hS hb⟩
  try simp only [List.getElem_toArray, List.getElem_cons_zero, List.getElem_cons_succ, Act.put, List.setIfInBounds_toArray, List.set_cons_zero, List.set_cons_succ]
  refine wpU_takeC (i := 9) (v := ?_) rfl (by kernel_rfl) (by kernel_rfl) (by kernel_rfl) (by kernel_rfl) (by kernel_rfl) (fun _ _ _ h => h) (by rfl) ?_ ?_
  rotate_left
  · intro wy hS; refine lands_value ?_ hS; go_simp <;> with_reducible rfl
  try simp only [List.getElem_toArray, List.getElem_cons_zero, List.getElem_cons_succ, Act.put, List.setIfInBounds_toArray, List.set_cons_zero, List.set_cons_succ]
  refine wpU_takeC (i := 10) (v := ?_) rfl (by kernel_rfl) (by kernel_rfl) (by kernel_rfl) (by kernel_rfl) (by kernel_rfl) (fun _ _ _ h => h) (by rfl) ?_ ?_
  rotate_left
  · intro wy hS; refine lands_value ?_ hS; go_simp <;> with_reducible rfl
  try simp only [List.getElem_toArray, List.getElem_cons_zero, List.getElem_cons_succ, Act.put, List.setIfInBounds_toArray, List.set_cons_zero, List.set_cons_succ]
  refine wpU_takeC (i := 11) (v := ?_) rfl (by kernel_rfl) (by kernel_rfl) (by kernel_rfl) (by kernel_rfl) (by kernel_rfl) (fun _ _ _ h => h) (by rfl) ?_ ?_
  rotate_left
  · intro wy hS; refine lands_value ?_ hS; go_simp <;> with_reducible rfl
  try simp only [List.getElem_toArray, List.getElem_cons_zero, List.getElem_cons_succ, Act.put, List.setIfInBounds_toArray, List.set_cons_zero, List.set_cons_succ]
  refine wpU_takeC (i := 12) (v := ?_) rfl (by kernel_rfl) (by kernel_rfl) (by kernel_rfl) (by kernel_rfl) (by kernel_rfl) (fun _ _ _ h => h) (by rfl) ?_ ?_
  rotate_left
  · intro wy hS; refine lands_value ?_ hS; go_simp <;> with_reducible rfl
  try simp only [List.getElem_toArray, List.getElem_cons_zero, List.getElem_cons_succ, Act.put, List.setIfInBounds_toArray, List.set_cons_zero, List.set_cons_succ]
  refine wpU_takeC (i := 13) (v := ?_) rfl (by kernel_rfl) (by kernel_rfl) (by kernel_rfl) (by kernel_rfl) (by kernel_rfl) (fun _ _ _ h => h) (by rfl) ?_ ?_
  rotate_left
  · intro wy hS; refine lands_value ?_ hS; go_simp <;> with_reducible rfl
  try simp only [List.getElem_toArray, List.getElem_cons_zero, List.getElem_cons_succ, Act.put, List.setIfInBounds_toArray, List.set_cons_zero, List.set_cons_succ]
  refine wpU_takeC (i := 14) (v := ?_) rfl (by kernel_rfl) (by kernel_rfl) (by kernel_rfl) (by kernel_rfl) (by kernel_rfl) (fun _ _ _ h => h) (by rfl) ?_ ?_
  rotate_left
  · intro wy hS; refine lands_value ?_ hS; go_simp <;> with_reducible rfl
  try simp only [List.getElem_toArray, List.getElem_cons_zero, List.getElem_cons_succ, Act.put, List.setIfInBounds_toArray, List.set_cons_zero, List.set_cons_succ]
  refine wpU_takeC (i := 15) (v := ?_) rfl (by kernel_rfl) (by kernel_rfl) (by kernel_rfl) (by kernel_rfl) (by kernel_rfl) (fun _ _ _ h => h) (by rfl) ?_ ?_
  rotate_left
  · intro wy hS; refine lands_value ?_ hS; go_simp <;> with_reducible rfl
  try simp only [List.getElem_toArray, List.getElem_cons_zero, List.getElem_cons_succ, Act.put, List.setIfInBounds_toArray, List.set_cons_zero, List.set_cons_succ]
  refine wpU_leaf' _ (by kernel_rfl) ?_
  intro wy hS
  refine wpAny_none _ (by kernel_rfl) ?_
  have T3 := hide (T2.out.on hS)
  clear hS y1 b1 b2 RS T2
  try simp only [Act.put]
  have hv1 : (v == v) = true := by simp
  have hv2 : (th == th) = true := by simp
  have hv3 : (en == en) = true := by simp
  go_wp2
  go_ret
  exact ⟨by simp, T3.out⟩

theorem resultRow_oneCell (ab : Bool) (ou : Int) : ∀ u ∈ ([.bool ab, .int .i64 ou] : List Value), u.oneCell' = true := by
  intro u hu
  simp only [List.mem_cons, List.not_mem_nil, or_false] at hu
  rcases hu with h | h <;> subst h <;> rfl

set_option maxHeartbeats 4000000 in
set_option maxRecDepth 100000 in
theorem ask_result (w0 w : World) (x : Nat) (M : SM) (R : RM) (h : TwoS w0 w x M R) (ha : Rel M R) (y : OpV) (hk : y.kind = 5) :
    Calls Tryz.prog 46 #[.pointer (some ⟨x, 0, none⟩), .agg y.cells.toArray] w fun e w' => e = .returned (.bool true) ∧ TwoS w0 w' x M R := by
  have T0 := hide h
  have PS := hide (fun wx (hp : SAt wx M) => pResult_any M wx hp y.a)
  have RS := hide (fun wx (hr : RefAt wx R) => rResult_any R wx hr y.a)
  rw [ha.result y.a] at PS
  generalize (R.result y.a).1 = ab at *
  generalize (R.result y.a).2.1 = ou at *
  generalize (R.result y.a).2.2 = en at *
  clear h ha
  obtain ⟨kind, a, b, c, ⟨⟨ra, rn, rc⟩, ⟨wa, wn, wc⟩, ⟨ca, cn, cc⟩⟩, t⟩ := y
  simp only at hk PS RS
  subst hk
  show Calls Tryz.prog 46 #[.pointer (some ⟨x, 0, none⟩), .agg #[.int .i64 5, .int .i64 a, .int .i64 b, .int .i64 c, .slice ra rn rc, .slice wa wn wc, .slice ca cn cc]] w _
  have T1 := hide (T0.out.on (below_alloc1 w (.cells #[.int .i64 5, .int .i64 a, .int .i64 b, .int .i64 c, .slice ra rn rc, .slice wa wn wc, .slice ca cn cc] 35)))
  have A1 := hide (rowAt_alloc w [.int .i64 5, .int .i64 a, .int .i64 b, .int .i64 c, .slice ra rn rc, .slice wa wn wc, .slice ca cn cc] 35)
  go_enter Tryz.func46, Tryz.ntmps46
  go_wp2
  change Hid (RowAt (w.alloc (.cells #[.int .i64 5, .int .i64 a, .int .i64 b, .int .i64 c, .slice ra rn rc, .slice wa wn wc, .slice ca cn cc] 35)) w.heap.size 35 [.int .i64 5, .int .i64 a, .int .i64 b, .int .i64 c, .slice ra rn rc, .slice wa wn wc, .slice ca cn cc]) at A1
  generalize w.alloc (.cells #[.int .i64 5, .int .i64 a, .int .i64 b, .int .i64 c, .slice ra rn rc, .slice wa wn wc, .slice ca cn cc] 35) = W at *
  have x0 := T1.out.pair.cell' (i := 0) rfl
  have x1 := T1.out.pair.cell' (i := 1) rfl
  have a1 := A1.out.cell' (i := 1) rfl
  have KLa : Hid (∀ w', Below W.heap.size W w' → (w'.cell? ⟨x, 0, none⟩ = some (.pointer (some ⟨M.b, 0, none⟩)) ∧ w'.cell? ⟨w.heap.size, 1, none⟩ = some (.int .i64 a))) := hide (fun w' hB => ⟨(T1.out.on hB).pair.cell' (i := 0) rfl, (A1.out.below' hB).cell' (i := 1) rfl⟩)
  clear x0 x1 a1
  refine wp_region_held_drew (S := (fun w' => w'.cell? ⟨x, 0, none⟩ = some (.pointer (some ⟨M.b, 0, none⟩)) ∧ w'.cell? ⟨w.heap.size, 1, none⟩ = some (.int .i64 a))) (by kernel_rfl) (KLa.out _ (Below.refl _ _).drew) (fun hHeld => ?_)
  have D0a : Hid (Below W.heap.size W W.drew) := hide (Below.refl _ _).drew
  refine wpAnyH_take (i := 0) (v := ?_) rfl (by kernel_rfl) (by kernel_rfl) (by kernel_rfl) (fun _ _ _ h => h) (Or.inl ⟨by rfl, ?_⟩) (by assumption) ?_
  rotate_left
  · intro w hSw; (try dsimp only at hSw); (go_simp <;> with_reducible rfl)
  try simp only [List.getElem_toArray, List.getElem_cons_zero, Act.put, List.setIfInBounds_toArray, List.set_cons_zero, List.set_cons_succ]
  refine wpAnyH_take (i := 1) (v := ?_) rfl (by kernel_rfl) (by kernel_rfl) (by kernel_rfl) (fun _ _ _ h => h) (Or.inl ⟨by rfl, ?_⟩) (by assumption) ?_
  rotate_left
  · intro w hSw; (try dsimp only at hSw); (go_simp <;> with_reducible rfl)
  try simp only [List.getElem_toArray, List.getElem_cons_zero, List.getElem_cons_succ, Act.put, List.setIfInBounds_toArray, List.set_cons_zero, List.set_cons_succ]
  refine wpAnyH_take (i := 2) (v := ?_) rfl (by kernel_rfl) (by kernel_rfl) (by kernel_rfl) (fun _ _ _ h => h) (Or.inl ⟨by rfl, ?_⟩) (by assumption) ?_
  rotate_left
  · intro w hSw; (try dsimp only at hSw); (go_simp <;> with_reducible rfl)
  try simp only [List.getElem_toArray, List.getElem_cons_zero, List.getElem_cons_succ, Act.put, List.setIfInBounds_toArray, List.set_cons_zero, List.set_cons_succ]
  refine wpAnyH_take (i := 3) (v := ?_) rfl (by kernel_rfl) (by kernel_rfl) (by kernel_rfl) (fun _ _ _ h => h) (Or.inl ⟨by rfl, ?_⟩) (by assumption) ?_
  rotate_left
  · intro w hSw; (try dsimp only at hSw); (go_simp <;> with_reducible rfl)
  try simp only [List.getElem_toArray, List.getElem_cons_zero, List.getElem_cons_succ, Act.put, List.setIfInBounds_toArray, List.set_cons_zero, List.set_cons_succ]
  refine wpAnyH_take (i := 4) (v := ?_) rfl (by kernel_rfl) (by kernel_rfl) (by kernel_rfl) (fun _ _ _ h => h) (Or.inl ⟨by rfl, ?_⟩) (by assumption) ?_
  rotate_left
  · intro w hSw; (try dsimp only at hSw); (go_simp <;> with_reducible rfl)
  try simp only [List.getElem_toArray, List.getElem_cons_zero, List.getElem_cons_succ, Act.put, List.setIfInBounds_toArray, List.set_cons_zero, List.set_cons_succ]
  refine wpAnyH_take (i := 5) (v := ?_) rfl (by kernel_rfl) (by kernel_rfl) (by kernel_rfl) (fun _ _ _ h => h) (Or.inl ⟨by rfl, ?_⟩) (by assumption) ?_
  rotate_left
  · intro w hSw; (try dsimp only at hSw); (go_simp <;> with_reducible rfl)
  try simp only [List.getElem_toArray, List.getElem_cons_zero, List.getElem_cons_succ, Act.put, List.setIfInBounds_toArray, List.set_cons_zero, List.set_cons_succ]
  refine wpAnyH_ready (rs := [6, 10]) (by kernel_rfl) (by simp) ?_
  refine AllReadyH.cons rfl (fun K hK => ?_) (AllReadyH.cons rfl (fun K hK => ?_) AllReadyH.nil)
  · skip
    rw [if_pos (by rfl)]
    simp only [List.getElem_toArray, List.getElem_cons_zero, List.getElem_cons_succ]
    go_simp
    refine (PS.out _ (T1.out.on D0a.out).p).mono ?_
    rintro e v1a ⟨rfl, hb⟩
    have E1a := hide hb; have D1a := hide (below_on D0a.out hb); clear hb
    refine hK.out _ _ (KLa.out _ D1a.out) (fun hHeld => ?_)
    clear hK K
    try simp only [List.getElem_toArray, List.getElem_cons_zero, List.getElem_cons_succ, Act.put, List.setIfInBounds_toArray, List.set_cons_zero, List.set_cons_succ]
    refine wpAnyH_take (i := 7) (v := ?_) rfl (by kernel_rfl) (by kernel_rfl) (by kernel_rfl) (fun _ _ _ h => h) (Or.inl ⟨by rfl, ?_⟩) (by assumption) ?_
    rotate_left
    · intro w hSw; (try dsimp only at hSw); (go_simp <;> with_reducible rfl)
    try simp only [List.getElem_toArray, List.getElem_cons_zero, List.getElem_cons_succ, Act.put, List.setIfInBounds_toArray, List.set_cons_zero, List.set_cons_succ]
    refine wpAnyH_take (i := 8) (v := ?_) rfl (by kernel_rfl) (by kernel_rfl) (by kernel_rfl) (fun _ _ _ h => h) (Or.inl ⟨by rfl, ?_⟩) (by assumption) ?_
    rotate_left
    · intro w hSw; (try dsimp only at hSw); (go_simp <;> with_reducible rfl)
    try simp only [List.getElem_toArray, List.getElem_cons_zero, List.getElem_cons_succ, Act.put, List.setIfInBounds_toArray, List.set_cons_zero, List.set_cons_succ]
    refine wpAnyH_take (i := 9) (v := ?_) rfl (by kernel_rfl) (by kernel_rfl) (by kernel_rfl) (fun _ _ _ h => h) (Or.inl ⟨by rfl, ?_⟩) (by assumption) ?_
    rotate_left
    · intro w hSw; (try dsimp only at hSw); (go_simp <;> with_reducible rfl)
    try simp only [List.getElem_toArray, List.getElem_cons_zero, List.getElem_cons_succ, Act.put, List.setIfInBounds_toArray, List.set_cons_zero, List.set_cons_succ]
    refine wpAnyH_ready (rs := [10]) (by kernel_rfl) (by simp) ?_
    refine AllReadyH.cons rfl (fun K hK => ?_) AllReadyH.nil
    rw [if_pos (by rfl)]
    simp only [List.getElem_toArray, List.getElem_cons_zero, List.getElem_cons_succ]
    refine wp_alloc_let 63 rfl (.agg #[.bool false, .int .i64 0]) [.bool false, .int .i64 0] (by kernel_rfl) rfl ?_
    intro u1a gxa hgx ru bu zu
    have RUa := hide ru; have D2a := hide (below_on D1a.out bu); have GXa := hide (show W.heap.size ≤ gxa from by rw [hgx]; exact D1a.out.size); clear ru zu hgx bu
    refine hK.out _ _ (KLa.out _ D2a.out) (fun hHeld => ?_)
    clear hK K
    try simp only [Act.put, List.setIfInBounds_toArray, List.set_cons_zero, List.set_cons_succ]
    refine wpAnyH_ready (rs := [11]) (by kernel_rfl) (by simp) ?_
    refine AllReadyH.cons rfl (fun K hK => ?_) AllReadyH.nil
    rw [if_pos (by rfl)]
    simp only [List.getElem_toArray, List.getElem_cons_zero, List.getElem_cons_succ]
    refine wp_store_row 63 (.tmp 5) (.tmp 26) rfl gxa rfl [.bool ab, .int .i64 ou] [.bool false, .int .i64 0] 63 RUa.out rfl rfl (by kernel_rfl) (resultRow_oneCell ab ou) ?_
    intro w5a r5 c5 z5
    have B5a := hide (show Below W.heap.size W w5a from D2a.out.trans (c5.belowB (fun k hk => by rw [hk]; exact GXa.out) D2a.out.size))
    have R5a := hide r5; clear r5 c5 z5
    refine hK.out _ _ (KLa.out _ B5a.out) (fun hHeld => ?_)
    clear hK K
    try simp only [Act.put]
    refine wpAnyH_take (i := 12) (v := ?_) rfl (by kernel_rfl) (by kernel_rfl) (by kernel_rfl) (fun _ _ _ h => h) (Or.inl ⟨by rfl, ?_⟩) (by assumption) ?_
    rotate_left
    · intro w hSw; (try dsimp only at hSw); (go_simp <;> with_reducible rfl)
    try simp only [List.getElem_toArray, List.getElem_cons_zero, List.getElem_cons_succ, Act.put, List.setIfInBounds_toArray, List.set_cons_zero, List.set_cons_succ]
    refine wpAnyH_done (by kernel_rfl) ?_ _
    try simp only [Act.put]
    clear hHeld KLa
    have KLb : Hid (∀ w', Below w5a.heap.size w5a w' → (w'.cell? ⟨x, 1, none⟩ = some (.pointer (some ⟨R.b, 0, none⟩)) ∧ w'.cell? ⟨w.heap.size, 1, none⟩ = some (.int .i64 a))) := hide (fun w' hB => ⟨((T1.out.on B5a.out).on hB).pair.cell' (i := 1) rfl, ((A1.out.below' B5a.out).below' hB).cell' (i := 1) rfl⟩)
    go_wp2_with fail
    refine wp_region_held_drew (S := (fun w' => w'.cell? ⟨x, 1, none⟩ = some (.pointer (some ⟨R.b, 0, none⟩)) ∧ w'.cell? ⟨w.heap.size, 1, none⟩ = some (.int .i64 a))) (by kernel_rfl) (KLb.out _ (Below.refl _ _).drew) (fun hHeld => ?_)
    have D0b : Hid (Below w5a.heap.size w5a w5a.drew) := hide (Below.refl _ _).drew
    refine wpAnyH_take (i := 0) (v := ?_) rfl (by kernel_rfl) (by kernel_rfl) (by kernel_rfl) (fun _ _ _ h => h) (Or.inl ⟨by rfl, ?_⟩) (by assumption) ?_
    rotate_left
    · intro w hSw; (try dsimp only at hSw); (go_simp <;> with_reducible rfl)
    try simp only [List.getElem_toArray, List.getElem_cons_zero, Act.put, List.setIfInBounds_toArray, List.set_cons_zero, List.set_cons_succ]
    refine wpAnyH_take (i := 1) (v := ?_) rfl (by kernel_rfl) (by kernel_rfl) (by kernel_rfl) (fun _ _ _ h => h) (Or.inl ⟨by rfl, ?_⟩) (by assumption) ?_
    rotate_left
    · intro w hSw; (try dsimp only at hSw); (go_simp <;> with_reducible rfl)
    try simp only [List.getElem_toArray, List.getElem_cons_zero, List.getElem_cons_succ, Act.put, List.setIfInBounds_toArray, List.set_cons_zero, List.set_cons_succ]
    refine wpAnyH_take (i := 2) (v := ?_) rfl (by kernel_rfl) (by kernel_rfl) (by kernel_rfl) (fun _ _ _ h => h) (Or.inl ⟨by rfl, ?_⟩) (by assumption) ?_
    rotate_left
    · intro w hSw; (try dsimp only at hSw); (go_simp <;> with_reducible rfl)
    try simp only [List.getElem_toArray, List.getElem_cons_zero, List.getElem_cons_succ, Act.put, List.setIfInBounds_toArray, List.set_cons_zero, List.set_cons_succ]
    refine wpAnyH_take (i := 3) (v := ?_) rfl (by kernel_rfl) (by kernel_rfl) (by kernel_rfl) (fun _ _ _ h => h) (Or.inl ⟨by rfl, ?_⟩) (by assumption) ?_
    rotate_left
    · intro w hSw; (try dsimp only at hSw); (go_simp <;> with_reducible rfl)
    try simp only [List.getElem_toArray, List.getElem_cons_zero, List.getElem_cons_succ, Act.put, List.setIfInBounds_toArray, List.set_cons_zero, List.set_cons_succ]
    refine wpAnyH_take (i := 4) (v := ?_) rfl (by kernel_rfl) (by kernel_rfl) (by kernel_rfl) (fun _ _ _ h => h) (Or.inl ⟨by rfl, ?_⟩) (by assumption) ?_
    rotate_left
    · intro w hSw; (try dsimp only at hSw); (go_simp <;> with_reducible rfl)
    try simp only [List.getElem_toArray, List.getElem_cons_zero, List.getElem_cons_succ, Act.put, List.setIfInBounds_toArray, List.set_cons_zero, List.set_cons_succ]
    refine wpAnyH_take (i := 5) (v := ?_) rfl (by kernel_rfl) (by kernel_rfl) (by kernel_rfl) (fun _ _ _ h => h) (Or.inl ⟨by rfl, ?_⟩) (by assumption) ?_
    rotate_left
    · intro w hSw; (try dsimp only at hSw); (go_simp <;> with_reducible rfl)
    try simp only [List.getElem_toArray, List.getElem_cons_zero, List.getElem_cons_succ, Act.put, List.setIfInBounds_toArray, List.set_cons_zero, List.set_cons_succ]
    refine wpAnyH_ready (rs := [6, 10]) (by kernel_rfl) (by simp) ?_
    refine AllReadyH.cons rfl (fun K hK => ?_) (AllReadyH.cons rfl (fun K hK => ?_) AllReadyH.nil)
    · skip
      rw [if_pos (by rfl)]
      simp only [List.getElem_toArray, List.getElem_cons_zero, List.getElem_cons_succ]
      go_simp
      refine (RS.out _ ((T1.out.on B5a.out).on D0b.out).r).mono ?_
      rintro e v1b ⟨rfl, hb⟩
      have E1b := hide hb; have D1b := hide (below_on D0b.out hb); clear hb
      refine hK.out _ _ (KLb.out _ D1b.out) (fun hHeld => ?_)
      clear hK K
      try simp only [List.getElem_toArray, List.getElem_cons_zero, List.getElem_cons_succ, Act.put, List.setIfInBounds_toArray, List.set_cons_zero, List.set_cons_succ]
      refine wpAnyH_take (i := 7) (v := ?_) rfl (by kernel_rfl) (by kernel_rfl) (by kernel_rfl) (fun _ _ _ h => h) (Or.inl ⟨by rfl, ?_⟩) (by assumption) ?_
      rotate_left
      · intro w hSw; (try dsimp only at hSw); (go_simp <;> with_reducible rfl)
      try simp only [List.getElem_toArray, List.getElem_cons_zero, List.getElem_cons_succ, Act.put, List.setIfInBounds_toArray, List.set_cons_zero, List.set_cons_succ]
      refine wpAnyH_take (i := 8) (v := ?_) rfl (by kernel_rfl) (by kernel_rfl) (by kernel_rfl) (fun _ _ _ h => h) (Or.inl ⟨by rfl, ?_⟩) (by assumption) ?_
      rotate_left
      · intro w hSw; (try dsimp only at hSw); (go_simp <;> with_reducible rfl)
      try simp only [List.getElem_toArray, List.getElem_cons_zero, List.getElem_cons_succ, Act.put, List.setIfInBounds_toArray, List.set_cons_zero, List.set_cons_succ]
      refine wpAnyH_take (i := 9) (v := ?_) rfl (by kernel_rfl) (by kernel_rfl) (by kernel_rfl) (fun _ _ _ h => h) (Or.inl ⟨by rfl, ?_⟩) (by assumption) ?_
      rotate_left
      · intro w hSw; (try dsimp only at hSw); (go_simp <;> with_reducible rfl)
      try simp only [List.getElem_toArray, List.getElem_cons_zero, List.getElem_cons_succ, Act.put, List.setIfInBounds_toArray, List.set_cons_zero, List.set_cons_succ]
      refine wpAnyH_ready (rs := [10]) (by kernel_rfl) (by simp) ?_
      refine AllReadyH.cons rfl (fun K hK => ?_) AllReadyH.nil
      rw [if_pos (by rfl)]
      simp only [List.getElem_toArray, List.getElem_cons_zero, List.getElem_cons_succ]
      refine wp_alloc_let 63 rfl (.agg #[.bool false, .int .i64 0]) [.bool false, .int .i64 0] (by kernel_rfl) rfl ?_
      intro u1b gxb hgx ru bu zu
      have RUb := hide ru; have D2b := hide (below_on D1b.out bu); have GXb := hide (show w5a.heap.size ≤ gxb from by rw [hgx]; exact D1b.out.size); clear ru zu hgx bu
      refine hK.out _ _ (KLb.out _ D2b.out) (fun hHeld => ?_)
      clear hK K
      try simp only [Act.put, List.setIfInBounds_toArray, List.set_cons_zero, List.set_cons_succ]
      refine wpAnyH_ready (rs := [11]) (by kernel_rfl) (by simp) ?_
      refine AllReadyH.cons rfl (fun K hK => ?_) AllReadyH.nil
      rw [if_pos (by rfl)]
      simp only [List.getElem_toArray, List.getElem_cons_zero, List.getElem_cons_succ]
      refine wp_store_row 63 (.tmp 7) (.tmp 36) rfl gxb rfl [.bool ab, .int .i64 ou] [.bool false, .int .i64 0] 63 RUb.out rfl rfl (by kernel_rfl) (resultRow_oneCell ab ou) ?_
      intro w5b r5 c5 z5
      have B5b := hide (show Below w5a.heap.size w5a w5b from D2b.out.trans (c5.belowB (fun k hk => by rw [hk]; exact GXb.out) D2b.out.size))
      have R5b := hide r5; clear r5 c5 z5
      refine hK.out _ _ (KLb.out _ B5b.out) (fun hHeld => ?_)
      clear hK K
      try simp only [Act.put]
      refine wpAnyH_take (i := 12) (v := ?_) rfl (by kernel_rfl) (by kernel_rfl) (by kernel_rfl) (fun _ _ _ h => h) (Or.inl ⟨by rfl, ?_⟩) (by assumption) ?_
      rotate_left
      · intro w hSw; (try dsimp only at hSw); (go_simp <;> with_reducible rfl)
      try simp only [List.getElem_toArray, List.getElem_cons_zero, List.getElem_cons_succ, Act.put, List.setIfInBounds_toArray, List.set_cons_zero, List.set_cons_succ]
      refine wpAnyH_done (by kernel_rfl) ?_ _
      try simp only [Act.put]
      clear hHeld KLb
      have TF := hide ((T1.out.on B5a.out).on B5b.out)
      have r0 := (R5a.out.below' B5b.out).cell' (i := 0) rfl
      have r1 := (R5a.out.below' B5b.out).cell' (i := 1) rfl
      have s0 := R5b.out.cell' (i := 0) rfl
      have s1 := R5b.out.cell' (i := 1) rfl
      have hv1 : (ab == ab) = true := by simp
      have hv2 : (ou == ou) = true := by simp
      have hv3 : (en == en) = true := by simp
      go_wp2
      go_ret
      exact ⟨by simp, TF.out⟩
    · skip
      rw [if_pos (by rfl)]
      simp only [List.getElem_toArray, List.getElem_cons_zero, List.getElem_cons_succ]
      refine wp_alloc_let 63 rfl (.agg #[.bool false, .int .i64 0]) [.bool false, .int .i64 0] (by kernel_rfl) rfl ?_
      intro u1b gxb hgx ru bu zu
      have RUb := hide ru; have D1b := hide (below_on D0b.out bu); have GXb := hide (show w5a.heap.size ≤ gxb from by rw [hgx]; exact D0b.out.size); clear ru zu hgx bu
      refine hK.out _ _ (KLb.out _ D1b.out) (fun hHeld => ?_)
      clear hK K
      try simp only [Act.put, List.setIfInBounds_toArray, List.set_cons_zero, List.set_cons_succ]
      refine wpAnyH_ready (rs := [6]) (by kernel_rfl) (by simp) ?_
      refine AllReadyH.cons rfl (fun K hK => ?_) AllReadyH.nil
      rw [if_pos (by rfl)]
      simp only [List.getElem_toArray, List.getElem_cons_zero, List.getElem_cons_succ]
      go_simp
      refine (RS.out _ ((T1.out.on B5a.out).on D1b.out).r).mono ?_
      rintro e v1b ⟨rfl, hb⟩
      have E1b := hide hb; have D2b := hide (below_on D1b.out hb); clear hb
      refine hK.out _ _ (KLb.out _ D2b.out) (fun hHeld => ?_)
      clear hK K
      try simp only [List.getElem_toArray, List.getElem_cons_zero, List.getElem_cons_succ, Act.put, List.setIfInBounds_toArray, List.set_cons_zero, List.set_cons_succ]
      refine wpAnyH_take (i := 7) (v := ?_) rfl (by kernel_rfl) (by kernel_rfl) (by kernel_rfl) (fun _ _ _ h => h) (Or.inl ⟨by rfl, ?_⟩) (by assumption) ?_
      rotate_left
      · intro w hSw; (try dsimp only at hSw); (go_simp <;> with_reducible rfl)
      try simp only [List.getElem_toArray, List.getElem_cons_zero, List.getElem_cons_succ, Act.put, List.setIfInBounds_toArray, List.set_cons_zero, List.set_cons_succ]
      refine wpAnyH_take (i := 8) (v := ?_) rfl (by kernel_rfl) (by kernel_rfl) (by kernel_rfl) (fun _ _ _ h => h) (Or.inl ⟨by rfl, ?_⟩) (by assumption) ?_
      rotate_left
      · intro w hSw; (try dsimp only at hSw); (go_simp <;> with_reducible rfl)
      try simp only [List.getElem_toArray, List.getElem_cons_zero, List.getElem_cons_succ, Act.put, List.setIfInBounds_toArray, List.set_cons_zero, List.set_cons_succ]
      refine wpAnyH_take (i := 9) (v := ?_) rfl (by kernel_rfl) (by kernel_rfl) (by kernel_rfl) (fun _ _ _ h => h) (Or.inl ⟨by rfl, ?_⟩) (by assumption) ?_
      rotate_left
      · intro w hSw; (try dsimp only at hSw); (go_simp <;> with_reducible rfl)
      try simp only [List.getElem_toArray, List.getElem_cons_zero, List.getElem_cons_succ, Act.put, List.setIfInBounds_toArray, List.set_cons_zero, List.set_cons_succ]
      refine wpAnyH_ready (rs := [11]) (by kernel_rfl) (by simp) ?_
      refine AllReadyH.cons rfl (fun K hK => ?_) AllReadyH.nil
      rw [if_pos (by rfl)]
      simp only [List.getElem_toArray, List.getElem_cons_zero, List.getElem_cons_succ]
      refine wp_store_row 63 (.tmp 7) (.tmp 36) rfl gxb rfl [.bool ab, .int .i64 ou] [.bool false, .int .i64 0] 63 (RUb.out.below' E1b.out) rfl rfl (by kernel_rfl) (resultRow_oneCell ab ou) ?_
      intro w5b r5 c5 z5
      have B5b := hide (show Below w5a.heap.size w5a w5b from D2b.out.trans (c5.belowB (fun k hk => by rw [hk]; exact GXb.out) D2b.out.size))
      have R5b := hide r5; clear r5 c5 z5
      refine hK.out _ _ (KLb.out _ B5b.out) (fun hHeld => ?_)
      clear hK K
      try simp only [Act.put]
      refine wpAnyH_take (i := 12) (v := ?_) rfl (by kernel_rfl) (by kernel_rfl) (by kernel_rfl) (fun _ _ _ h => h) (Or.inl ⟨by rfl, ?_⟩) (by assumption) ?_
      rotate_left
      · intro w hSw; (try dsimp only at hSw); (go_simp <;> with_reducible rfl)
      try simp only [List.getElem_toArray, List.getElem_cons_zero, List.getElem_cons_succ, Act.put, List.setIfInBounds_toArray, List.set_cons_zero, List.set_cons_succ]
      refine wpAnyH_done (by kernel_rfl) ?_ _
      try simp only [Act.put]
      clear hHeld KLb
      have TF := hide ((T1.out.on B5a.out).on B5b.out)
      have r0 := (R5a.out.below' B5b.out).cell' (i := 0) rfl
      have r1 := (R5a.out.below' B5b.out).cell' (i := 1) rfl
      have s0 := R5b.out.cell' (i := 0) rfl
      have s1 := R5b.out.cell' (i := 1) rfl
      have hv1 : (ab == ab) = true := by simp
      have hv2 : (ou == ou) = true := by simp
      have hv3 : (en == en) = true := by simp
      go_wp2
      go_ret
      exact ⟨by simp, TF.out⟩
  · skip
    rw [if_pos (by rfl)]
    simp only [List.getElem_toArray, List.getElem_cons_zero, List.getElem_cons_succ]
    refine wp_alloc_let 63 rfl (.agg #[.bool false, .int .i64 0]) [.bool false, .int .i64 0] (by kernel_rfl) rfl ?_
    intro u1a gxa hgx ru bu zu
    have RUa := hide ru; have D1a := hide (below_on D0a.out bu); have GXa := hide (show W.heap.size ≤ gxa from by rw [hgx]; exact D0a.out.size); clear ru zu hgx bu
    refine hK.out _ _ (KLa.out _ D1a.out) (fun hHeld => ?_)
    clear hK K
    try simp only [Act.put, List.setIfInBounds_toArray, List.set_cons_zero, List.set_cons_succ]
    refine wpAnyH_ready (rs := [6]) (by kernel_rfl) (by simp) ?_
    refine AllReadyH.cons rfl (fun K hK => ?_) AllReadyH.nil
    rw [if_pos (by rfl)]
    simp only [List.getElem_toArray, List.getElem_cons_zero, List.getElem_cons_succ]
    go_simp
    refine (PS.out _ (T1.out.on D1a.out).p).mono ?_
    rintro e v1a ⟨rfl, hb⟩
    have E1a := hide hb; have D2a := hide (below_on D1a.out hb); clear hb
    refine hK.out _ _ (KLa.out _ D2a.out) (fun hHeld => ?_)
    clear hK K
    try simp only [List.getElem_toArray, List.getElem_cons_zero, List.getElem_cons_succ, Act.put, List.setIfInBounds_toArray, List.set_cons_zero, List.set_cons_succ]
    refine wpAnyH_take (i := 7) (v := ?_) rfl (by kernel_rfl) (by kernel_rfl) (by kernel_rfl) (fun _ _ _ h => h) (Or.inl ⟨by rfl, ?_⟩) (by assumption) ?_
    rotate_left
    · intro w hSw; (try dsimp only at hSw); (go_simp <;> with_reducible rfl)
    try simp only [List.getElem_toArray, List.getElem_cons_zero, List.getElem_cons_succ, Act.put, List.setIfInBounds_toArray, List.set_cons_zero, List.set_cons_succ]
    refine wpAnyH_take (i := 8) (v := ?_) rfl (by kernel_rfl) (by kernel_rfl) (by kernel_rfl) (fun _ _ _ h => h) (Or.inl ⟨by rfl, ?_⟩) (by assumption) ?_
    rotate_left
    · intro w hSw; (try dsimp only at hSw); (go_simp <;> with_reducible rfl)
    try simp only [List.getElem_toArray, List.getElem_cons_zero, List.getElem_cons_succ, Act.put, List.setIfInBounds_toArray, List.set_cons_zero, List.set_cons_succ]
    refine wpAnyH_take (i := 9) (v := ?_) rfl (by kernel_rfl) (by kernel_rfl) (by kernel_rfl) (fun _ _ _ h => h) (Or.inl ⟨by rfl, ?_⟩) (by assumption) ?_
    rotate_left
    · intro w hSw; (try dsimp only at hSw); (go_simp <;> with_reducible rfl)
    try simp only [List.getElem_toArray, List.getElem_cons_zero, List.getElem_cons_succ, Act.put, List.setIfInBounds_toArray, List.set_cons_zero, List.set_cons_succ]
    refine wpAnyH_ready (rs := [11]) (by kernel_rfl) (by simp) ?_
    refine AllReadyH.cons rfl (fun K hK => ?_) AllReadyH.nil
    rw [if_pos (by rfl)]
    simp only [List.getElem_toArray, List.getElem_cons_zero, List.getElem_cons_succ]
    refine wp_store_row 63 (.tmp 5) (.tmp 26) rfl gxa rfl [.bool ab, .int .i64 ou] [.bool false, .int .i64 0] 63 (RUa.out.below' E1a.out) rfl rfl (by kernel_rfl) (resultRow_oneCell ab ou) ?_
    intro w5a r5 c5 z5
    have B5a := hide (show Below W.heap.size W w5a from D2a.out.trans (c5.belowB (fun k hk => by rw [hk]; exact GXa.out) D2a.out.size))
    have R5a := hide r5; clear r5 c5 z5
    refine hK.out _ _ (KLa.out _ B5a.out) (fun hHeld => ?_)
    clear hK K
    try simp only [Act.put]
    refine wpAnyH_take (i := 12) (v := ?_) rfl (by kernel_rfl) (by kernel_rfl) (by kernel_rfl) (fun _ _ _ h => h) (Or.inl ⟨by rfl, ?_⟩) (by assumption) ?_
    rotate_left
    · intro w hSw; (try dsimp only at hSw); (go_simp <;> with_reducible rfl)
    try simp only [List.getElem_toArray, List.getElem_cons_zero, List.getElem_cons_succ, Act.put, List.setIfInBounds_toArray, List.set_cons_zero, List.set_cons_succ]
    refine wpAnyH_done (by kernel_rfl) ?_ _
    try simp only [Act.put]
    clear hHeld KLa
    have KLb : Hid (∀ w', Below w5a.heap.size w5a w' → (w'.cell? ⟨x, 1, none⟩ = some (.pointer (some ⟨R.b, 0, none⟩)) ∧ w'.cell? ⟨w.heap.size, 1, none⟩ = some (.int .i64 a))) := hide (fun w' hB => ⟨((T1.out.on B5a.out).on hB).pair.cell' (i := 1) rfl, ((A1.out.below' B5a.out).below' hB).cell' (i := 1) rfl⟩)
    go_wp2_with fail
    refine wp_region_held_drew (S := (fun w' => w'.cell? ⟨x, 1, none⟩ = some (.pointer (some ⟨R.b, 0, none⟩)) ∧ w'.cell? ⟨w.heap.size, 1, none⟩ = some (.int .i64 a))) (by kernel_rfl) (KLb.out _ (Below.refl _ _).drew) (fun hHeld => ?_)
    have D0b : Hid (Below w5a.heap.size w5a w5a.drew) := hide (Below.refl _ _).drew
    refine wpAnyH_take (i := 0) (v := ?_) rfl (by kernel_rfl) (by kernel_rfl) (by kernel_rfl) (fun _ _ _ h => h) (Or.inl ⟨by rfl, ?_⟩) (by assumption) ?_
    rotate_left
    · intro w hSw; (try dsimp only at hSw); (go_simp <;> with_reducible rfl)
    try simp only [List.getElem_toArray, List.getElem_cons_zero, Act.put, List.setIfInBounds_toArray, List.set_cons_zero, List.set_cons_succ]
    refine wpAnyH_take (i := 1) (v := ?_) rfl (by kernel_rfl) (by kernel_rfl) (by kernel_rfl) (fun _ _ _ h => h) (Or.inl ⟨by rfl, ?_⟩) (by assumption) ?_
    rotate_left
    · intro w hSw; (try dsimp only at hSw); (go_simp <;> with_reducible rfl)
    try simp only [List.getElem_toArray, List.getElem_cons_zero, List.getElem_cons_succ, Act.put, List.setIfInBounds_toArray, List.set_cons_zero, List.set_cons_succ]
    refine wpAnyH_take (i := 2) (v := ?_) rfl (by kernel_rfl) (by kernel_rfl) (by kernel_rfl) (fun _ _ _ h => h) (Or.inl ⟨by rfl, ?_⟩) (by assumption) ?_
    rotate_left
    · intro w hSw; (try dsimp only at hSw); (go_simp <;> with_reducible rfl)
    try simp only [List.getElem_toArray, List.getElem_cons_zero, List.getElem_cons_succ, Act.put, List.setIfInBounds_toArray, List.set_cons_zero, List.set_cons_succ]
    refine wpAnyH_take (i := 3) (v := ?_) rfl (by kernel_rfl) (by kernel_rfl) (by kernel_rfl) (fun _ _ _ h => h) (Or.inl ⟨by rfl, ?_⟩) (by assumption) ?_
    rotate_left
    · intro w hSw; (try dsimp only at hSw); (go_simp <;> with_reducible rfl)
    try simp only [List.getElem_toArray, List.getElem_cons_zero, List.getElem_cons_succ, Act.put, List.setIfInBounds_toArray, List.set_cons_zero, List.set_cons_succ]
    refine wpAnyH_take (i := 4) (v := ?_) rfl (by kernel_rfl) (by kernel_rfl) (by kernel_rfl) (fun _ _ _ h => h) (Or.inl ⟨by rfl, ?_⟩) (by assumption) ?_
    rotate_left
    · intro w hSw; (try dsimp only at hSw); (go_simp <;> with_reducible rfl)
    try simp only [List.getElem_toArray, List.getElem_cons_zero, List.getElem_cons_succ, Act.put, List.setIfInBounds_toArray, List.set_cons_zero, List.set_cons_succ]
    refine wpAnyH_take (i := 5) (v := ?_) rfl (by kernel_rfl) (by kernel_rfl) (by kernel_rfl) (fun _ _ _ h => h) (Or.inl ⟨by rfl, ?_⟩) (by assumption) ?_
    rotate_left
    · intro w hSw; (try dsimp only at hSw); (go_simp <;> with_reducible rfl)
    try simp only [List.getElem_toArray, List.getElem_cons_zero, List.getElem_cons_succ, Act.put, List.setIfInBounds_toArray, List.set_cons_zero, List.set_cons_succ]
    refine wpAnyH_ready (rs := [6, 10]) (by kernel_rfl) (by simp) ?_
    refine AllReadyH.cons rfl (fun K hK => ?_) (AllReadyH.cons rfl (fun K hK => ?_) AllReadyH.nil)
    · skip
      rw [if_pos (by rfl)]
      simp only [List.getElem_toArray, List.getElem_cons_zero, List.getElem_cons_succ]
      go_simp
      refine (RS.out _ ((T1.out.on B5a.out).on D0b.out).r).mono ?_
      rintro e v1b ⟨rfl, hb⟩
      have E1b := hide hb; have D1b := hide (below_on D0b.out hb); clear hb
      refine hK.out _ _ (KLb.out _ D1b.out) (fun hHeld => ?_)
      clear hK K
      try simp only [List.getElem_toArray, List.getElem_cons_zero, List.getElem_cons_succ, Act.put, List.setIfInBounds_toArray, List.set_cons_zero, List.set_cons_succ]
      refine wpAnyH_take (i := 7) (v := ?_) rfl (by kernel_rfl) (by kernel_rfl) (by kernel_rfl) (fun _ _ _ h => h) (Or.inl ⟨by rfl, ?_⟩) (by assumption) ?_
      rotate_left
      · intro w hSw; (try dsimp only at hSw); (go_simp <;> with_reducible rfl)
      try simp only [List.getElem_toArray, List.getElem_cons_zero, List.getElem_cons_succ, Act.put, List.setIfInBounds_toArray, List.set_cons_zero, List.set_cons_succ]
      refine wpAnyH_take (i := 8) (v := ?_) rfl (by kernel_rfl) (by kernel_rfl) (by kernel_rfl) (fun _ _ _ h => h) (Or.inl ⟨by rfl, ?_⟩) (by assumption) ?_
      rotate_left
      · intro w hSw; (try dsimp only at hSw); (go_simp <;> with_reducible rfl)
      try simp only [List.getElem_toArray, List.getElem_cons_zero, List.getElem_cons_succ, Act.put, List.setIfInBounds_toArray, List.set_cons_zero, List.set_cons_succ]
      refine wpAnyH_take (i := 9) (v := ?_) rfl (by kernel_rfl) (by kernel_rfl) (by kernel_rfl) (fun _ _ _ h => h) (Or.inl ⟨by rfl, ?_⟩) (by assumption) ?_
      rotate_left
      · intro w hSw; (try dsimp only at hSw); (go_simp <;> with_reducible rfl)
      try simp only [List.getElem_toArray, List.getElem_cons_zero, List.getElem_cons_succ, Act.put, List.setIfInBounds_toArray, List.set_cons_zero, List.set_cons_succ]
      refine wpAnyH_ready (rs := [10]) (by kernel_rfl) (by simp) ?_
      refine AllReadyH.cons rfl (fun K hK => ?_) AllReadyH.nil
      rw [if_pos (by rfl)]
      simp only [List.getElem_toArray, List.getElem_cons_zero, List.getElem_cons_succ]
      refine wp_alloc_let 63 rfl (.agg #[.bool false, .int .i64 0]) [.bool false, .int .i64 0] (by kernel_rfl) rfl ?_
      intro u1b gxb hgx ru bu zu
      have RUb := hide ru; have D2b := hide (below_on D1b.out bu); have GXb := hide (show w5a.heap.size ≤ gxb from by rw [hgx]; exact D1b.out.size); clear ru zu hgx bu
      refine hK.out _ _ (KLb.out _ D2b.out) (fun hHeld => ?_)
      clear hK K
      try simp only [Act.put, List.setIfInBounds_toArray, List.set_cons_zero, List.set_cons_succ]
      refine wpAnyH_ready (rs := [11]) (by kernel_rfl) (by simp) ?_
      refine AllReadyH.cons rfl (fun K hK => ?_) AllReadyH.nil
      rw [if_pos (by rfl)]
      simp only [List.getElem_toArray, List.getElem_cons_zero, List.getElem_cons_succ]
      refine wp_store_row 63 (.tmp 7) (.tmp 36) rfl gxb rfl [.bool ab, .int .i64 ou] [.bool false, .int .i64 0] 63 RUb.out rfl rfl (by kernel_rfl) (resultRow_oneCell ab ou) ?_
      intro w5b r5 c5 z5
      have B5b := hide (show Below w5a.heap.size w5a w5b from D2b.out.trans (c5.belowB (fun k hk => by rw [hk]; exact GXb.out) D2b.out.size))
      have R5b := hide r5; clear r5 c5 z5
      refine hK.out _ _ (KLb.out _ B5b.out) (fun hHeld => ?_)
      clear hK K
      try simp only [Act.put]
      refine wpAnyH_take (i := 12) (v := ?_) rfl (by kernel_rfl) (by kernel_rfl) (by kernel_rfl) (fun _ _ _ h => h) (Or.inl ⟨by rfl, ?_⟩) (by assumption) ?_
      rotate_left
      · intro w hSw; (try dsimp only at hSw); (go_simp <;> with_reducible rfl)
      try simp only [List.getElem_toArray, List.getElem_cons_zero, List.getElem_cons_succ, Act.put, List.setIfInBounds_toArray, List.set_cons_zero, List.set_cons_succ]
      refine wpAnyH_done (by kernel_rfl) ?_ _
      try simp only [Act.put]
      clear hHeld KLb
      have TF := hide ((T1.out.on B5a.out).on B5b.out)
      have r0 := (R5a.out.below' B5b.out).cell' (i := 0) rfl
      have r1 := (R5a.out.below' B5b.out).cell' (i := 1) rfl
      have s0 := R5b.out.cell' (i := 0) rfl
      have s1 := R5b.out.cell' (i := 1) rfl
      have hv1 : (ab == ab) = true := by simp
      have hv2 : (ou == ou) = true := by simp
      have hv3 : (en == en) = true := by simp
      go_wp2
      go_ret
      exact ⟨by simp, TF.out⟩
    · skip
      rw [if_pos (by rfl)]
      simp only [List.getElem_toArray, List.getElem_cons_zero, List.getElem_cons_succ]
      refine wp_alloc_let 63 rfl (.agg #[.bool false, .int .i64 0]) [.bool false, .int .i64 0] (by kernel_rfl) rfl ?_
      intro u1b gxb hgx ru bu zu
      have RUb := hide ru; have D1b := hide (below_on D0b.out bu); have GXb := hide (show w5a.heap.size ≤ gxb from by rw [hgx]; exact D0b.out.size); clear ru zu hgx bu
      refine hK.out _ _ (KLb.out _ D1b.out) (fun hHeld => ?_)
      clear hK K
      try simp only [Act.put, List.setIfInBounds_toArray, List.set_cons_zero, List.set_cons_succ]
      refine wpAnyH_ready (rs := [6]) (by kernel_rfl) (by simp) ?_
      refine AllReadyH.cons rfl (fun K hK => ?_) AllReadyH.nil
      rw [if_pos (by rfl)]
      simp only [List.getElem_toArray, List.getElem_cons_zero, List.getElem_cons_succ]
      go_simp
      refine (RS.out _ ((T1.out.on B5a.out).on D1b.out).r).mono ?_
      rintro e v1b ⟨rfl, hb⟩
      have E1b := hide hb; have D2b := hide (below_on D1b.out hb); clear hb
      refine hK.out _ _ (KLb.out _ D2b.out) (fun hHeld => ?_)
      clear hK K
      try simp only [List.getElem_toArray, List.getElem_cons_zero, List.getElem_cons_succ, Act.put, List.setIfInBounds_toArray, List.set_cons_zero, List.set_cons_succ]
      refine wpAnyH_take (i := 7) (v := ?_) rfl (by kernel_rfl) (by kernel_rfl) (by kernel_rfl) (fun _ _ _ h => h) (Or.inl ⟨by rfl, ?_⟩) (by assumption) ?_
      rotate_left
      · intro w hSw; (try dsimp only at hSw); (go_simp <;> with_reducible rfl)
      try simp only [List.getElem_toArray, List.getElem_cons_zero, List.getElem_cons_succ, Act.put, List.setIfInBounds_toArray, List.set_cons_zero, List.set_cons_succ]
      refine wpAnyH_take (i := 8) (v := ?_) rfl (by kernel_rfl) (by kernel_rfl) (by kernel_rfl) (fun _ _ _ h => h) (Or.inl ⟨by rfl, ?_⟩) (by assumption) ?_
      rotate_left
      · intro w hSw; (try dsimp only at hSw); (go_simp <;> with_reducible rfl)
      try simp only [List.getElem_toArray, List.getElem_cons_zero, List.getElem_cons_succ, Act.put, List.setIfInBounds_toArray, List.set_cons_zero, List.set_cons_succ]
      refine wpAnyH_take (i := 9) (v := ?_) rfl (by kernel_rfl) (by kernel_rfl) (by kernel_rfl) (fun _ _ _ h => h) (Or.inl ⟨by rfl, ?_⟩) (by assumption) ?_
      rotate_left
      · intro w hSw; (try dsimp only at hSw); (go_simp <;> with_reducible rfl)
      try simp only [List.getElem_toArray, List.getElem_cons_zero, List.getElem_cons_succ, Act.put, List.setIfInBounds_toArray, List.set_cons_zero, List.set_cons_succ]
      refine wpAnyH_ready (rs := [11]) (by kernel_rfl) (by simp) ?_
      refine AllReadyH.cons rfl (fun K hK => ?_) AllReadyH.nil
      rw [if_pos (by rfl)]
      simp only [List.getElem_toArray, List.getElem_cons_zero, List.getElem_cons_succ]
      refine wp_store_row 63 (.tmp 7) (.tmp 36) rfl gxb rfl [.bool ab, .int .i64 ou] [.bool false, .int .i64 0] 63 (RUb.out.below' E1b.out) rfl rfl (by kernel_rfl) (resultRow_oneCell ab ou) ?_
      intro w5b r5 c5 z5
      have B5b := hide (show Below w5a.heap.size w5a w5b from D2b.out.trans (c5.belowB (fun k hk => by rw [hk]; exact GXb.out) D2b.out.size))
      have R5b := hide r5; clear r5 c5 z5
      refine hK.out _ _ (KLb.out _ B5b.out) (fun hHeld => ?_)
      clear hK K
      try simp only [Act.put]
      refine wpAnyH_take (i := 12) (v := ?_) rfl (by kernel_rfl) (by kernel_rfl) (by kernel_rfl) (fun _ _ _ h => h) (Or.inl ⟨by rfl, ?_⟩) (by assumption) ?_
      rotate_left
      · intro w hSw; (try dsimp only at hSw); (go_simp <;> with_reducible rfl)
      try simp only [List.getElem_toArray, List.getElem_cons_zero, List.getElem_cons_succ, Act.put, List.setIfInBounds_toArray, List.set_cons_zero, List.set_cons_succ]
      refine wpAnyH_done (by kernel_rfl) ?_ _
      try simp only [Act.put]
      clear hHeld KLb
      have TF := hide ((T1.out.on B5a.out).on B5b.out)
      have r0 := (R5a.out.below' B5b.out).cell' (i := 0) rfl
      have r1 := (R5a.out.below' B5b.out).cell' (i := 1) rfl
      have s0 := R5b.out.cell' (i := 0) rfl
      have s1 := R5b.out.cell' (i := 1) rfl
      have hv1 : (ab == ab) = true := by simp
      have hv2 : (ou == ou) = true := by simp
      have hv3 : (en == en) = true := by simp
      go_wp2
      go_ret
      exact ⟨by simp, TF.out⟩

end Go.Proofs.YtlheloogmgmjnaaGreat

namespace Go.Proofs.YtlheloogmgmjnaaGreat
open Go.RowKit

def doZero (d : Nat) : List Value := (List.replicate d (⟨0, Mac.zero⟩ : SDo)).flatMap SDo.row
theorem made_list (z : Array Value) (c : List Value) (hz : z = c.toArray) (hc : 0 < c.length) : ∀ n, (madeCells z (n * c.length)).toList = (List.replicate n c).flatMap id := by
  have get : ∀ n i, i < n * c.length → ((List.replicate n c).flatMap id)[i]? = c[i % c.length]? := by
    intro n
    induction n with
    | zero => intro i hi; omega
    | succ n ih =>
      intro i hi
      rw [List.replicate_succ, List.flatMap_cons]
      show (c ++ _)[i]? = _
      by_cases h : i < c.length
      · rw [List.getElem?_append_left h, Nat.mod_eq_of_lt h]
      · have e : (n + 1) * c.length = n * c.length + c.length := Nat.succ_mul n c.length
        rw [List.getElem?_append_right (by omega), ih (i - c.length) (by omega), ← Nat.mod_eq_sub_mod (by omega)]
  have len : ∀ n, ((List.replicate n c).flatMap id).length = n * c.length := by
    intro n
    induction n with
    | zero => simp
    | succ n ih => rw [List.replicate_succ, List.flatMap_cons, List.length_append, ih, Nat.succ_mul]; simp [Nat.add_comm]
  intro n
  apply List.ext_getElem?
  intro i
  by_cases hi : i < n * c.length
  · rw [get n i hi]
    have hm : i % c.length < c.length := Nat.mod_lt _ hc
    subst hz
    simp [madeCells, hi, hm]
  · rw [List.getElem?_eq_none (by simp [madeCells]; omega), List.getElem?_eq_none (by rw [len]; omega)]
theorem doZero_flat (d : Nat) : (List.replicate d (SDo.row ⟨0, Mac.zero⟩)).flatMap id = doZero d := by
  unfold doZero
  induction d with
  | zero => rfl
  | succ d ih => rw [List.replicate_succ, List.replicate_succ, List.flatMap_cons, List.flatMap_cons, ih]; rfl
theorem doZero_eq (d : Nat) : (madeCells (SDo.row ⟨0, Mac.zero⟩).toArray (d * 30)).toList = doZero d := by
  have := made_list (SDo.row ⟨0, Mac.zero⟩).toArray (SDo.row ⟨0, Mac.zero⟩) rfl (by rw [doZero_row]; omega) d
  rw [doZero_row] at this
  rw [this, doZero_flat]

structure NewAtS (w wx : World) (gb gm gd p d r : Nat) : Prop where
  row : RowAt wx gb 98 [.int .i64 r, .int .i64 0, .slice none 0 0, .slice none 0 0, .slice (some ⟨gm, 0, none⟩) p p, .slice (some ⟨gd, 0, none⟩) d d, .int .i64 0]
  mkr : RowAt wx gm 126 (zeroMk p)
  dor : RowAt wx gd 110 (doZero d)
  ne : gb ≠ gm
  ne2 : gb ≠ gd
  ne3 : gm ≠ gd
  b0 : w.heap.size ≤ gb
  m0 : w.heap.size ≤ gm
  d0 : w.heap.size ≤ gd
  below : Below w.heap.size w wx

structure NewLpS (w wx : World) (gb gm gd p d r : Nat) (mbs : List Nat) : Prop where
  row : RowAt wx gb 98 [.int .i64 r, .int .i64 0, .slice none 0 0, .slice none 0 0, .slice (some ⟨gm, 0, none⟩) p p, .slice (some ⟨gd, 0, none⟩) d d, .int .i64 0]
  len : mbs.length ≤ p
  mkr : RowAt wx gm 126 (mkCells mbs ++ zeroMk (p - mbs.length))
  dor : RowAt wx gd 110 (doZero d)
  maps : ∀ g ∈ mbs, wx.heap[g]? = some (.map #[] 0) ∧ w.heap.size ≤ g ∧ g ≠ gb ∧ g ≠ gm ∧ g ≠ gd
  nd : mbs.Nodup
  ne : gb ≠ gm
  ne2 : gb ≠ gd
  ne3 : gm ≠ gd
  b0 : w.heap.size ≤ gb
  m0 : w.heap.size ≤ gm
  d0 : w.heap.size ≤ gd
  below : Below w.heap.size w wx

theorem NewLpS.step {w wx : World} {gb gm gd p d r : Nat} {mbs : List Nat} (h : NewLpS w wx gb gm gd p d r mbs) (hlt : mbs.length < p) :
    NewLpS w ((wx.setCell ⟨gm, mbs.length * 2 + 1, none⟩ (.map (some wx.heap.size))).alloc (.map #[] 0)) gb gm gd p d r (mbs ++ [wx.heap.size]) := by
  have hc : Chg wx ((wx.setCell ⟨gm, mbs.length * 2 + 1, none⟩ (.map (some wx.heap.size))).alloc (.map #[] 0)) (· = gm) := (Chg.setCell wx ⟨gm, mbs.length * 2 + 1, none⟩ _).trans (Chg.of_below (below_alloc1 _ _) _)
  have l1 := h.row.lt
  have l2 := h.mkr.lt
  have l3 := h.dor.lt
  have m0 := h.m0
  have b0 := h.b0
  refine ⟨h.row.chg hc h.ne, by simp; omega, ?_, h.dor.chg hc (fun e => h.ne3 e.symm), ?_, ?_, h.ne, h.ne2, h.ne3, h.b0, h.m0, h.d0, h.below.trans (hc.belowB (fun k hk => by omega) h.below.size)⟩
  · have := (h.mkr.set (mbs.length * 2 + 1) (.map (some wx.heap.size))).alloc (.map #[] 0)
    rw [show p - mbs.length = (p - (mbs.length + 1)) + 1 by omega, mk_set] at this
    simpa using this
  · intro g hg
    rcases List.mem_append.1 hg with hg | hg
    · obtain ⟨h1, h2, h3, h4, h5⟩ := h.maps g hg
      exact ⟨by rw [hc.block g (blk_of_map h1) h4]; exact h1, h2, h3, h4, h5⟩
    · obtain rfl := List.mem_singleton.1 hg
      have hne : wx.heap.size ≠ gm := by omega
      refine ⟨?_, h.below.size, by omega, hne, by omega⟩
      have e : (wx.setCell ⟨gm, mbs.length * 2 + 1, none⟩ (.map (some wx.heap.size))).heap.size = wx.heap.size := size_setCell_eq _ _ _
      have := heap_alloc_new (wx.setCell ⟨gm, mbs.length * 2 + 1, none⟩ (.map (some wx.heap.size))) (.map #[] 0)
      rw [e] at this
      exact this
  · rw [List.nodup_append]
    refine ⟨h.nd, by simp, ?_⟩
    intro a ha b hb
    rw [List.mem_singleton.1 hb]
    have := blk_of_map (h.maps a ha).1
    omega

def newSM (gb gm gd p d r : Nat) (mbs : List Nat) : SM :=
  ⟨gb, r, 0, 0, [], Sl.nil, [], [], Sl.nil, mbs.map (fun g => ⟨0, g⟩), ⟨some ⟨gm, 0, none⟩, p, p⟩, List.replicate d ⟨0, Mac.zero⟩, ⟨some ⟨gd, 0, none⟩, d, d⟩, fun _ => [], fun _ => none⟩

theorem mkCells_row (l : List Nat) : (l.map (fun g => (⟨0, g⟩ : SMk))).flatMap SMk.row = mkCells l := by
  induction l with
  | nil => rfl
  | cons x l ih => rw [List.map_cons, List.flatMap_cons, ih]; rfl

theorem NewLpS.done {w wx : World} {gb gm gd p d r : Nat} {mbs : List Nat} (h : NewLpS w wx gb gm gd p d r mbs) (hlen : mbs.length = p) (h1 : 1 ≤ p) (h8 : p ≤ 8) (hd1 : 1 ≤ d) (hd6 : d ≤ 6) :
    SAt wx (newSM gb gm gd p d r mbs) := by
  have hm := h.mkr
  rw [hlen, Nat.sub_self] at hm
  have e : mkCells mbs ++ zeroMk 0 = mkCells mbs := by simp [zeroMk]
  rw [e] at hm
  have hml : (newSM gb gm gd p d r mbs).mks.length = p := by simp [newSM, hlen]
  have hdz : (doZero d).length = d * 30 := by
    unfold doZero
    rw [doRows_length _ (fun x hx => by rw [(List.mem_replicate.1 hx).2]; exact ⟨rfl, rfl⟩)]
    simp
  exact {
    row := h.row
    rc := Own.nil _ _ _
    rcn := rfl
    en := Own.nil _ _ _
    enn := rfl
    mO := by
      show Own wx 126 2 ⟨some ⟨gm, 0, none⟩, p, p⟩ _
      rw [show (newSM gb gm gd p d r mbs).mks.flatMap SMk.row = mkCells mbs from mkCells_row mbs]
      exact Own.of_row hm (by rw [mkCells_length, hlen]) (by unfold maxLen; omega)
    mkn := hml.symm
    mk1 := by rw [hml]; exact h1
    mk8 := by rw [hml]; exact h8
    dO := Own.of_row (n := d) h.dor hdz (by unfold maxLen; omega)
    don := by simp [newSM]
    do1 := by simp [newSM]; exact hd1
    do6 := by simp [newSM]; exact hd6
    dr := by
      intro x hx
      rw [(List.mem_replicate.1 hx).2]
      exact ⟨rfl, rfl⟩
    maps := by
      intro i m hi
      have hi' : (mbs.map (fun g => (⟨0, g⟩ : SMk)))[i]? = some m := hi
      rw [List.getElem?_map] at hi'
      obtain ⟨g, hg, rfl⟩ := Option.map_eq_some_iff.1 hi'
      have := IMapAt.made (h.maps g (List.mem_of_getElem? hg)).1
      have e : (newSM gb gm gd p d r mbs).mapOf i = fun _ => none := by
        funext k; simp [SM.mapOf, newSM]
      rw [e]; exact this
    vers := fun k _ => VerAt.nil wx
    keys := by intro k s hs; simp [newSM] at hs
    nodup := by
      show (gb :: ([] ++ ([] ++ ([gm] ++ ([gd] ++ (mbs.map (fun g => (⟨0, g⟩ : SMk))).map (·.g)))))).Nodup
      have e2 : (mbs.map (fun g => (⟨0, g⟩ : SMk))).map (·.g) = mbs := by
        rw [List.map_map]
        show List.map (fun g => g) mbs = mbs
        simp
      rw [e2]
      simp only [List.nil_append, List.singleton_append, List.nodup_cons, List.mem_cons, not_or]
      have n1 := h.ne
      have n2 := h.ne2
      have n3 := h.ne3
      exact ⟨⟨n1, n2, fun q => (h.maps gb q).2.2.1 rfl⟩, ⟨n3, fun q => (h.maps gm q).2.2.2.1 rfl⟩, fun q => (h.maps gd q).2.2.2.2 rfl, h.nd⟩
    vbase := by intro k _ x hx; simp [newSM, SM.vsl, Sl.nil, Sl.blk] at hx
    vapart := by intro k _ _ _ _ x hx; simp [newSM, SM.vsl, Sl.nil, Sl.blk] at hx
    txn := by intro i r t hr; simp [newSM] at hr
    txl := rfl
    txns := by simp [newSM]
    ends1 := by simp [newSM] }

set_option maxHeartbeats 2000000 in
set_option maxRecDepth 100000 in
theorem sNew_yes (p d r : Nat) (w : World) (h : sizeOk p d r) :
    Calls Tryz.prog 38 #[.int .i64 p, .int .i64 d, .int .i64 r] w fun e w' => ∃ b gm gd mbs, e = .returned (.tuple #[.pointer (some ⟨b, 0, none⟩), .int .i64 0]) ∧ mbs.length = p ∧ SAt w' (newSM b gm gd p d r mbs) ∧ (∀ k ∈ b :: gm :: gd :: mbs, w.heap.size ≤ k) ∧ Below w.heap.size w w' := by
  obtain ⟨h1, h2, h3, h4, h5, h6⟩ := h
  obtain ⟨i0, hi, hz0, hz1, hz2⟩ := info_parts Tryz.info126
  obtain ⟨i1, gi, gz0, gz1, gz2⟩ := doer_info2
  have hmp : ∀ wx : World, (Instr.makeSlice 95 (.int .i64 (p : Int)) (.int .i64 (p : Int))).run Tryz.prog wx = .ok (.slice (some ⟨wx.heap.size, 0, none⟩) p p) (wx.alloc (.cells (zeroMk p).toArray 126)) := fun wx => by
    have := run_make (P := Tryz.prog) wx 95 126 i0 (.agg #[.int .i64 0, .map none]) Tryz.underlying95 hi hz0 .i64 .i64 p p (by omega) (by omega) (by rw [hz2]; omega) (by omega)
    rw [hz1] at this
    simp only [Int.toNat_natCast] at this
    rw [← made_mk]
    simpa using this
  have hmd : ∀ wx : World, (Instr.makeSlice 96 (.int .i64 (d : Int)) (.int .i64 (d : Int))).run Tryz.prog wx = .ok (.slice (some ⟨wx.heap.size, 0, none⟩) d d) (wx.alloc (.cells (doZero d).toArray 110)) := fun wx => by
    have hb : (i1.bytes : Int) * (d : Int) ≤ 281474976710656 := by
      have : i1.bytes * d ≤ 1000 * 6 := Nat.mul_le_mul gz2 (by omega)
      have e : (i1.bytes : Int) * (d : Int) = ((i1.bytes * d : Nat) : Int) := by simp
      rw [e]; omega
    have := run_make (P := Tryz.prog) wx 96 110 i1 _ Tryz.underlying96 gi gz0 .i64 .i64 d d (by omega) (by omega) hb (by omega)
    rw [gz1] at this
    simp only [Int.toNat_natCast] at this
    rw [← doZero_eq]
    simpa [Value.cells] using this
  generalize hDM : (zeroMk p).toArray = DM at *
  generalize hDD : (doZero d).toArray = DD at *
  have HDM := hide hDM.symm
  have HDD := hide hDD.symm
  clear hDM hDD hi hz0 hz1 hz2 gi gz0 gz1 gz2
  go_enter Tryz.func38, Tryz.ntmps38
  go_wp2
  go_cut [8] from 32 to 38 (fun x wx => ∃ gb gm gd, x = .pointer (some ⟨gb, 0, none⟩) ∧ NewAtS w wx gb gm gd p d r)
  case first =>
    go_region
    all_goals
      go_wp2
      go_meet
      refine ⟨_, _, _, rfl, ⟨(rowAt_topc (by simp) rfl).drew, ?_, ?_, ?_, ?_, ?_, ?_, ?_, ?_, ?_⟩⟩
      · refine RowAt.drew ?_; repeat (first | (refine rowAt_topc ?_ HDM.out; simp; done) | refine RowAt.alloc ?_ _)
      · refine RowAt.drew ?_; repeat (first | (refine rowAt_topc ?_ HDD.out; simp; done) | refine RowAt.alloc ?_ _)
      · first | (simp; done) | (simp; omega) | omega
      · first | (simp; done) | (simp; omega) | omega
      · first | (simp; done) | (simp; omega) | omega
      · first | (simp; done) | (simp; omega) | omega
      · first | (simp; done) | (simp; omega) | omega
      · first | (simp; done) | (simp; omega) | omega
      · exact (below_on (below_on (below_alloc1 _ _) (below_alloc1 _ _)) (below_alloc1 _ _)).drew
  case rest =>
    obtain ⟨gb, gm, gd, rfl, hN⟩ := hcut
    rename World => X
    have c4 := hN.row.cell' (i := 4) rfl
    have LP : Hid (NewLpS w X gb gm gd p d r []) := hide ⟨hN.row, by simp, by simpa [mkCells] using hN.mkr, hN.dor, by simp, by simp, hN.ne, hN.ne2, hN.ne3, hN.b0, hN.m0, hN.d0, hN.below⟩
    clear hN hmp hmd HDM HDD
    go_wp2
    go_loopw [44] (fun i wr => ∃ mbs : List Nat, mbs.length ≤ p ∧ i = .int .i64 mbs.length ∧ Hid (NewLpS w wr gb gm gd p d r mbs)) (fun i _ => p - (intOf i).toNat)
    case atStart => exact ⟨[], by simp, rfl, LP⟩
    case round =>
      obtain ⟨mbs, hk, rfl, L⟩ := hrel
      by_cases hlt : mbs.length < p
      · have d4 := L.out.row.cell' (i := 4) rfl
        have hmk := L.out.mkr
        have z1 := hmk.cell' (i := mbs.length * 2 + 1) (v := .map none) (by rw [List.getElem?_append_right (by rw [mkCells_length]; omega), mkCells_length, show mbs.length * 2 + 1 - mbs.length * 2 = 0 * 2 + 1 by omega]; exact (zeroMk_get _ 0 (by omega)).2)
        have zf := hmk.frozen (mbs.length * 2 + 1)
        have hgl := hmk.lt
        have ST := hide (L.out.step hlt)
        have hmm : ∀ wx : World, (Instr.makeMap 124 none).run Tryz.prog wx = .ok (.map (some wx.heap.size)) (wx.alloc (.map #[] 0)) := fun _ => rfl
        clear hmk L LP c4
        go_wp2
        go_roundw
        case rel => exact ⟨mbs ++ [wr.heap.size], by simp; omega, by simp, ST⟩
        case measure => simp [intOf]; omega
      · have hpl : mbs.length = p := by omega
        clear c4 LP
        go_wp2
        go_ret2
        refine ⟨gb, gm, gd, mbs, rfl, hpl, L.out.done hpl (by omega) (by omega) (by omega) (by omega), ?_, L.out.below⟩
        intro k hk
        simp only [List.mem_cons] at hk
        rcases hk with h | h | h | h
        · rw [h]; exact L.out.b0
        · rw [h]; exact L.out.m0
        · rw [h]; exact L.out.d0
        · exact (L.out.maps k h).2.1

end Go.Proofs.YtlheloogmgmjnaaGreat

namespace Go.Proofs.YtlheloogmgmjnaaGreat
open Go.RowKit

theorem getD_rep (n k : Nat) : (List.replicate n 0).getD k 0 = 0 := by
  rw [List.getD, List.getElem?_replicate]
  split <;> rfl
theorem rel_new (b i1 i2 i3 i4 p d r gb gm gd : Nat) (mbs : List Nat) (hp1 : 1 ≤ p) (hl : mbs.length = p) (hr : r ≤ 500) : Rel (newSM gb gm gd p d r mbs) (newRM b i1 i2 i3 i4 p d r) := by
  have hdl : (newRM b i1 i2 i3 i4 p d r).dealt = List.replicate p 0 := rfl
  refine
    { room := rfl
      room5 := hr
      taken := rfl
      fits := Nat.zero_le _
      txs := rfl
      recs := fun i x hx => by simp [newSM] at hx
      txns := rfl
      ends := rfl
      pos := fun e he => by simp [newRM] at he
      rise := List.Pairwise.nil
      dealt := ?_
      dealtle := fun x hx => by rw [hdl] at hx; rw [(List.mem_replicate.1 hx).2]; exact Nat.zero_le _
      closedle := Nat.le_refl _
      parts := by rw [hdl, List.length_replicate]; rfl
      parts1 := hp1
      took := rfl
      takenle := Nat.zero_le _
      gone := fun t ht => by simp [newRM] at ht
      chk := fun t ht => by simp [newRM] at ht
      serial := fun i hi => by simp [newRM] at hi
      hv := rfl
      vs := ?_
      dos := by simp [newSM, newRM]
      hal := by simp [newRM]
      dil := by simp [newRM]
      hand := ?_
      doer := ?_
      handle := ?_
      hands := ?_
      fresh := fun m t ht => by simp [newRM] at ht }
  · show (mbs.map (fun g => (⟨0, g⟩ : SMk))).map (·.dealt) = List.replicate p 0
    rw [List.map_map, ← hl]
    show List.map (fun _ => 0) mbs = _
    exact List.map_const' ..
  · intro k
    show [] = versL [] k ((List.replicate p 0).getD (k % p) 0)
    rw [getD_rep]
    rfl
  · intro i x hx
    have hx' : (List.replicate d (⟨0, Mac.zero⟩ : SDo))[i]? = some x := hx
    rw [(List.mem_replicate.1 (List.mem_of_getElem? hx')).2]
    exact (getD_rep d i).symm
  · intro i x _ hx m hm
    have hx' : (List.replicate d (⟨0, Mac.zero⟩ : SDo))[i]? = some x := hx
    rw [(List.mem_replicate.1 (List.mem_of_getElem? hx')).2] at hm
    simp at hm
  · intro i _
    show (List.replicate d 0).getD i 0 ≤ _
    rw [getD_rep]; exact Nat.zero_le _
  · intro i j _ _ _ hne
    exact absurd (getD_rep d i) hne

theorem two_newS {w w1 w2 w3 : World} {bb gm gd : Nat} {mbs : List Nat} {b i1 i2 i3 i4 p d r x : Nat} (hp : SAt w1 (newSM bb gm gd p d r mbs)) (h1 : ∀ k ∈ bb :: gm :: gd :: mbs, w.heap.size ≤ k) (hb1 : Below w.heap.size w w1)
    (hr : RefAt w2 (newRM b i1 i2 i3 i4 p d r)) (h2 : ∀ k ∈ [b, i1, i2, i3, i4], w1.heap.size ≤ k) (hb2 : Below w1.heap.size w1 w2) (hx : x = w2.heap.size) (hrow : RowAt w3 x 29 [.pointer (some ⟨bb, 0, none⟩), .pointer (some ⟨b, 0, none⟩)]) (hb3 : Below w2.heap.size w2 w3) :
    TwoS w w3 x (newSM bb gm gd p d r mbs) (newRM b i1 i2 i3 i4 p d r) := by
  have hf : ∀ k ∈ (newSM bb gm gd p d r mbs).foot, k ∈ bb :: gm :: gd :: mbs := by
    intro k hk
    rcases SM.mem_foot.1 hk with hk | ⟨q, hq, _⟩
    · rcases SM.mem_mut.1 hk with hk | ⟨j, _, hk⟩
      · simp only [SM.base, newSM, Sl.blk, Sl.nil, List.mem_cons, List.mem_append, List.mem_map, List.not_mem_nil, false_or, or_false] at hk
        simp only [List.mem_cons]
        rcases hk with hk | hk | hk | ⟨q, ⟨g, hg, rfl⟩, hk⟩
        · exact Or.inl hk
        · exact Or.inr (Or.inl hk)
        · exact Or.inr (Or.inr (Or.inl hk))
        · exact Or.inr (Or.inr (Or.inr (hk ▸ hg)))
      · simp [newSM, SM.vsl, Sl.nil, Sl.blk] at hk
    · simp [newSM] at hq
  have s1 := hb1.size
  have s2 := hb2.size
  refine ⟨hrow, (hp.below hb2).below hb3, hr.below hb3, ?_, ?_, ?_, fun k hk => h1 k (hf k hk), fun k hk => ?_, by omega, below_on (below_on hb1 hb2) hb3⟩
  · intro k hk hk2
    have := hp.foot_lt k hk
    have := h2 k (newRM_foot _ _ _ _ _ _ _ _ k hk2)
    omega
  · intro hk
    have := (hp.below hb2).foot_lt x hk
    omega
  · intro hk
    have := hr.foot_lt x hk
    omega
  · have := h2 k (newRM_foot _ _ _ _ _ _ _ _ k hk); omega

set_option maxHeartbeats 2000000 in
set_option maxRecDepth 100000 in
theorem sbegun_yes (p d r : Nat) (w : World) (h : sizeOk p d r) :
    Calls Tryz.prog 13 #[.int .i64 p, .int .i64 d, .int .i64 r] w fun e w' => ∃ x M R, e = .returned (.tuple #[.pointer (some ⟨x, 0, none⟩), .bool true]) ∧ TwoS w w' x M R ∧ Rel M R := by
  have PN := hide (sNew_yes p d r w h)
  have RN := hide (fun wx => rNew_yes p d r wx h)
  have HS := hide h
  clear h
  go_enter Tryz.func13, Tryz.ntmps13
  go_wp2_with fail
  refine PN.out.mono ?_
  rintro e w1 ⟨bb, gm, gd, mbs, rfl, hml, hp, h1, hb1⟩
  have HP := hide hp; have H1 := hide h1; have B1 := hide hb1; have HML := hide hml
  clear hp h1 hb1 PN hml
  go_wp2_with fail
  refine (RN.out w1).mono ?_
  rintro e w2 ⟨b, i1, i2, i3, i4, rfl, hr, h2, hb2⟩
  have HR := hide hr; have H2 := hide h2; have B2 := hide hb2
  clear hr h2 hb2 RN
  go_wp2
  go_ret2
  refine ⟨_, _, _, rfl, two_newS HP.out H1.out B1.out HR.out H2.out B2.out rfl (rowAt_alloc _ _ _) (below_alloc1 _ _), rel_new _ _ _ _ _ _ _ _ _ _ _ _ ?_ HML.out ?_⟩
  · have := HS.out.1; omega
  · have := HS.out.2.2.2.2.2; omega

theorem ask_any (w0 w : World) (x : Nat) (M : SM) (R : RM) (h : TwoS w0 w x M R) (ha : Rel M R) (y : OpV) :
    Calls Tryz.prog 46 #[.pointer (some ⟨x, 0, none⟩), .agg y.cells.toArray] w fun e w' => e = .returned (.bool true) ∧ TwoS w0 w' x M R := by
  by_cases hk : y.kind = 5
  · exact ask_result w0 w x M R h ha y hk
  · exact ask_read w0 w x M R h ha y hk

set_option maxHeartbeats 4000000 in
set_option maxRecDepth 100000 in
theorem splay_ask (w0 w : World) (x : Nat) (M : SM) (R : RM) (h : TwoS w0 w x M R) (ha : Rel M R) (y : OpV) (hk : y.kind = 5 ∨ y.kind = 6) :
    Calls Tryz.prog 14 #[.pointer (some ⟨x, 0, none⟩), .agg y.cells.toArray] w fun e w' => e = .returned (.bool true) ∧ ∃ M' R', TwoS w0 w' x M' R' ∧ Rel M' R' := by
  have SU := hide (fun wx (hb : Below w.heap.size w wx) => ask_any w0 wx x M R (h.on hb) ha y)
  have HA := hide ha
  clear h ha
  obtain ⟨kind, a, b, c, ⟨⟨ra, rn, rc⟩, ⟨wa, wn, wc⟩, ⟨ca, cn, cc⟩⟩, t⟩ := y
  simp only at hk
  simp only [OpV.cells] at SU
  rcases hk with rfl | rfl
  · show Calls Tryz.prog 14 #[.pointer (some ⟨x, 0, none⟩), .agg #[.int .i64 5, .int .i64 a, .int .i64 b, .int .i64 c, .slice ra rn rc, .slice wa wn wc, .slice ca cn cc]] w _
    go_enter Tryz.func14, Tryz.ntmps14
    go_wp2_with fail
    refine (SU.out _ (below_alloc1 _ _)).mono ?_
    rintro e w1 ⟨rfl, h1⟩
    have H1 := hide h1
    clear h1 SU
    go_wp2
    go_ret
    exact ⟨rfl, M, R, H1.out, HA.out⟩
  · show Calls Tryz.prog 14 #[.pointer (some ⟨x, 0, none⟩), .agg #[.int .i64 6, .int .i64 a, .int .i64 b, .int .i64 c, .slice ra rn rc, .slice wa wn wc, .slice ca cn cc]] w _
    go_enter Tryz.func14, Tryz.ntmps14
    go_wp2_with fail
    refine (SU.out _ (below_alloc1 _ _)).mono ?_
    rintro e w1 ⟨rfl, h1⟩
    have H1 := hide h1
    clear h1 SU
    go_wp2
    go_ret
    exact ⟨rfl, M, R, H1.out, HA.out⟩

/-- A step of a script of Steps. -/
theorem splay_any (w0 w : World) (x : Nat) (M : SM) (R : RM) (h : TwoS w0 w x M R) (ha : Rel M R) (y : OpV) (hx : TxAt w0 y.hd y.t) (hn : y.hd.nilOk) (hk : y.kind ≤ 6) (h4 : y.kind = 4 → y.a ≠ (R.parts : Int) + R.doers) :
    Calls Tryz.prog 14 #[.pointer (some ⟨x, 0, none⟩), .agg y.cells.toArray] w fun e w' => e = .returned (.bool true) ∧ ∃ M' R', TwoS w0 w' x M' R' ∧ Rel M' R' := by
  by_cases k1 : y.kind = 1
  · exact splay_submit w0 w x M R h ha y hx hn k1
  · by_cases k2 : y.kind = 2
    · exact splay_cut w0 w x M R h ha y k2
    · by_cases k3 : y.kind = 3
      · exact splay_show w0 w x M R h ha y k3
      · by_cases k4 : y.kind = 4
        · exact splay_step w0 w x M R h ha y k4 (h4 k4)
        · by_cases k5 : y.kind = 5 ∨ y.kind = 6
          · exact splay_ask w0 w x M R h ha y k5
          · exact splay_none w0 w x M R h ha y (by omega)

set_option maxHeartbeats 4000000 in
set_option maxRecDepth 100000 in
theorem looked_any (w0 w : World) (x : Nat) (M : SM) (R : RM) (h : TwoS w0 w x M R) (ha : Rel M R) :
    Calls Tryz.prog 16 #[.pointer (some ⟨x, 0, none⟩)] w fun e w' => e = .returned (.bool true) ∧ Below w0.heap.size w0 w' := by
  have SH := hide (splay_show w0 w x M R h ha ⟨3, 0, 0, 0, ⟨⟨none, 0, 0⟩, ⟨none, 0, 0⟩, ⟨none, 0, 0⟩⟩, ⟨[], [], []⟩⟩ rfl)
  simp only [OpV.cells] at SH
  clear h ha
  go_enter Tryz.func16, Tryz.ntmps16
  go_wp2_with fail
  refine SH.out.mono ?_
  rintro e w1 ⟨rfl, M1, R1, hT, hA⟩
  have T1 := hide hT
  have A1 := hide hA
  have tn := hT.r.txns
  have AK := hide (fun wx (hT : TwoS w0 wx x M1 R1) y => ask_any w0 wx x M1 R1 hT hA y)
  clear hT hA SH
  go_wp2
  go_loopw [3, 4, 5] (fun ok n _ wr => ∃ j : Nat, j ≤ R1.tasks.length + 3 ∧ n = .int .i64 ((j : Int) - 1) ∧ ok = .bool true ∧ Hid (TwoS w0 wr x M1 R1)) (fun _ n _ _ => R1.tasks.length + 3 - (intOf n + 1).toNat)
  case atStart => exact ⟨0, Nat.zero_le _, rfl, rfl, T1⟩
  case round =>
    obtain ⟨j, hj, rfl, rfl, T2⟩ := hrel
    clear T1
    have x1 := T2.out.pair.cell' (i := 1) rfl
    have r3 := T2.out.r.row.cell' (i := 3) rfl
    rw [T2.out.r.tkn] at r3
    have hwl : IntKind.i64.wrap ((R1.tasks.length : Int) + 1) = (R1.tasks.length : Int) + 1 := by rw [IntKind.wrap_i64]; omega
    by_cases hlt : j < R1.tasks.length + 3
    · have hc : ((j : Int) - 1) ≤ (R1.tasks.length : Int) + 1 := by omega
      have A5 := hide (AK.out wr T2.out ⟨5, (j : Int) - 1, 0, 0, ⟨⟨none, 0, 0⟩, ⟨none, 0, 0⟩, ⟨none, 0, 0⟩⟩, ⟨[], [], []⟩⟩)
      simp only [OpV.cells] at A5
      go_wp2_with fail
      refine A5.out.mono ?_
      rintro e w2 ⟨rfl, h2⟩
      have T3 := hide h2
      clear h2 A5 T2 x1 r3
      go_wp2
      go_loopw [3, 5] (fun ok k wz => ∃ i : Nat, i ≤ 26 ∧ k = .int .i64 ((i : Int) - 1) ∧ ok = .bool true ∧ Hid (TwoS w0 wz x M1 R1)) (fun _ k _ => 26 - (intOf k + 1).toNat)
      case atStart => exact ⟨0, Nat.zero_le _, rfl, rfl, T3⟩
      case round =>
        obtain ⟨i, hi, rfl, rfl, T4⟩ := hrel
        clear T3
        by_cases hil : i < 26
        · have hc2 : ((i : Int) - 1) ≤ 24 := by omega
          have A6 := hide (AK.out _ T4.out ⟨6, (i : Int) - 1, (j : Int) - 1, 0, ⟨⟨none, 0, 0⟩, ⟨none, 0, 0⟩, ⟨none, 0, 0⟩⟩, ⟨[], [], []⟩⟩)
          simp only [OpV.cells] at A6
          have hw1 : IntKind.i64.wrap ((i : Int) - 1 + 1) = ((i + 1 : Nat) : Int) - 1 := by rw [IntKind.wrap_i64]; omega
          go_wp2_with fail
          refine A6.out.mono ?_
          rintro e w3 ⟨rfl, h3⟩
          have T5 := hide h3
          clear h3 A6 T4
          go_wp2
          go_roundw
          case rel => exact ⟨i + 1, by omega, by go_num, rfl, T5⟩
          case measure => simp [intOf]; omega
        · have hc2 : ¬ ((i : Int) - 1) ≤ 24 := by omega
          have hw1 : IntKind.i64.wrap ((j : Int) - 1 + 1) = ((j + 1 : Nat) : Int) - 1 := by rw [IntKind.wrap_i64]; omega
          go_wp2
          go_roundw
          case rel => exact ⟨j + 1, by omega, by go_num, rfl, T4⟩
          case measure => simp [intOf]; omega
    · have hc : ¬ ((j : Int) - 1) ≤ (R1.tasks.length : Int) + 1 := by omega
      have BF := hide T2.out.below
      clear T2
      go_wp2
      go_ret
      exact ⟨rfl, BF.out⟩

end Go.Proofs.YtlheloogmgmjnaaGreat
