import Derived.Test.YtlheloogmgmjnaaGreatT11
import Derived.Test.YtlheloogmgmjnaaGreatT12
import Derived.Test.YtlheloogmgmjnaaGreatT08
import Derived.Deep.RegionHeldLaw
import Derived.Deep.DeepMust
import Derived.Test.YtlheloogmgmjnaaGreatT09
import Derived.Test.YtlheloogmgmjnaaGreatT03
namespace Go.Proofs.YtlheloogmgmjnaaGreat
open Go.RowKit

theorem RefAt.mut_lt {w : World} {M : RM} (h : RefAt w M) : ∀ k ∈ M.mut, k < w.heap.size := by
  intro k hk
  simp only [RM.mut, List.mem_cons, List.mem_append, List.mem_flatMap] at hk
  rcases hk with rfl | hk | hk | hk | hk | hk | hk | ⟨t, ht, hk⟩
  · exact h.row.lt
  · exact h.tk.blk_lt k hk
  · exact h.hv.blk_lt k hk
  · exact h.en.blk_lt k hk
  · exact h.de.blk_lt k hk
  · exact h.ha.blk_lt k hk
  · exact h.di.blk_lt k hk
  · exact (h.tsk t ht).gone.blk_lt k hk

def RM.foot (M : RM) : List Nat := M.mut ++ M.imm

theorem blk_le1 (s : Sl) : s.blk.length ≤ 1 := by unfold Sl.blk; split <;> simp

/-- One part of the blocks is laid anew. -/
theorem nodup_replace {A E E' B : List Nat} (h : (A ++ (E ++ B)).Nodup) (hl : E'.length ≤ 1) (hk : ∀ k ∈ E', k ∈ E ∨ k ∉ A ++ (E ++ B)) : (A ++ (E' ++ B)).Nodup := by
  rw [List.nodup_append] at h ⊢
  obtain ⟨hA, hEB, hd⟩ := h
  rw [List.nodup_append] at hEB
  obtain ⟨hE, hB, hd2⟩ := hEB
  have key : ∀ k ∈ E', k ∉ A ∧ k ∉ B := by
    intro k hk'
    rcases hk k hk' with h | h
    · exact ⟨fun ha => hd k ha k (by simp [h]) rfl, fun hb => hd2 k h k hb rfl⟩
    · simp only [List.mem_append, not_or] at h; exact ⟨h.1, h.2.2⟩
  refine ⟨hA, ?_, ?_⟩
  · rw [List.nodup_append]
    refine ⟨?_, hB, ?_⟩
    · match E', hl with
      | [], _ => simp
      | [x], _ => simp
    · intro a ha b hb e; subst e; exact (key a ha).2 hb
  · intro a ha b hb e
    subst e
    rcases List.mem_append.1 hb with h | h
    · exact (key a h).1 ha
    · exact hd a ha a (by simp [h]) rfl

theorem nodup_disj {A E B : List Nat} (h : (A ++ (E ++ B)).Nodup) : (∀ k ∈ A, k ∉ E) ∧ (∀ k ∈ B, k ∉ E) := by
  rw [List.nodup_append] at h
  obtain ⟨_, hEB, hd⟩ := h
  rw [List.nodup_append] at hEB
  exact ⟨fun k ha he => hd k ha k (by simp [he]) rfl, fun k hb he => hEB.2.2 k he k hb rfl⟩

theorem RefAt.b_apart {w : World} {M : RM} (h : RefAt w M) : ∀ k ∈ M.tkS.blk ++ (M.hvS.blk ++ (M.enS.blk ++ (M.deS.blk ++ (M.haS.blk ++ (M.diS.blk ++ M.tasks.flatMap fun t => t.goneS.blk))))), k ≠ M.b := by
  intro k hk e
  have := h.nodup
  rw [RM.mut, List.nodup_cons] at this
  exact this.1 (by rw [← e]; exact hk)

/-- The store behind a new end of a batch. -/
def RM.withEnd (M : RM) (s : Sl) : RM := { M with ends := M.ends ++ [M.tasks.length], enS := s }

theorem mem_mut_en {M : RM} {k : Nat} (h : k ∈ M.enS.blk) : k ∈ M.mut := by simp [RM.mut, h]

theorem refAt_withEnd {w w1 : World} {M : RM} {s : Sl} {sv : Value} (h : RefAt w M) (hlt : M.ends.length < M.tasks.length) (ho : Own w1 3 1 s (ints (nats M.ends) ++ [.int .i64 M.tasks.length])) (hn : s.n = M.enS.n + 1) (hc : Chg w w1 (fun k => k ∈ M.enS.blk)) (hb : ∀ k ∈ s.blk, k ∈ M.enS.blk ∨ w.heap.size ≤ k) (hsv : sv = .slice s.a s.n s.c) :
    RefAt (w1.setCell ⟨M.b, 5, none⟩ sv) (M.withEnd s) ∧ Chg w (w1.setCell ⟨M.b, 5, none⟩ sv) (fun k => k ∈ M.mut) ∧ (∀ k ∈ (M.withEnd s).foot, k ∈ M.foot ∨ w.heap.size ≤ k) := by
  subst hsv
  have hmut : M.mut = ([M.b] ++ M.tkS.blk ++ M.hvS.blk) ++ (M.enS.blk ++ (M.deS.blk ++ (M.haS.blk ++ (M.diS.blk ++ M.tasks.flatMap fun t => t.goneS.blk)))) := by simp [RM.mut]
  have hmut' : (M.withEnd s).mut = ([M.b] ++ M.tkS.blk ++ M.hvS.blk) ++ (s.blk ++ (M.deS.blk ++ (M.haS.blk ++ (M.diS.blk ++ M.tasks.flatMap fun t => t.goneS.blk)))) := by simp [RM.mut, RM.withEnd]
  have hnd := h.nodup
  have hbm : ∀ k ∈ s.blk, k ∈ M.enS.blk ∨ k ∉ M.mut := fun k hk => (hb k hk).imp id (fun h1 h2 => by have := h.mut_lt k h2; omega)
  have hnd' : (M.withEnd s).mut.Nodup := by
    rw [hmut']; rw [hmut] at hnd
    refine nodup_replace hnd (blk_le1 s) (fun k hk => ?_)
    rw [← hmut]; exact hbm k hk
  have hcm : Chg w (w1.setCell ⟨M.b, 5, none⟩ (.slice s.a s.n s.c)) (fun k => k = M.b ∨ k ∈ M.enS.blk) := (hc.mono (fun k _ hk => Or.inr hk)).put ⟨M.b, 5, none⟩ _ (Or.inl rfl)
  have hdis := nodup_disj (A := [M.b] ++ M.tkS.blk ++ M.hvS.blk) (E := M.enS.blk) (B := M.deS.blk ++ (M.haS.blk ++ (M.diS.blk ++ M.tasks.flatMap fun t => t.goneS.blk))) (by rw [← hmut]; exact h.nodup)
  have hba := h.b_apart
  have hA : ∀ k, k ∈ M.tkS.blk ∨ k ∈ M.hvS.blk → ¬ (k = M.b ∨ k ∈ M.enS.blk) := fun k hk hbad => hbad.elim (fun e => hba k (by rcases hk with h | h <;> simp [h]) e) (fun e => hdis.1 k (by rcases hk with h | h <;> simp [h]) e)
  have hB : ∀ k, k ∈ M.deS.blk ++ (M.haS.blk ++ (M.diS.blk ++ M.tasks.flatMap fun t => t.goneS.blk)) → ¬ (k = M.b ∨ k ∈ M.enS.blk) := fun k hk hbad => hbad.elim (fun e => hba k (by simp only [List.mem_append] at hk ⊢; exact Or.inr (Or.inr (Or.inr hk))) e) (fun e => hdis.2 k hk e)
  have hI : ∀ k ∈ M.imm, ¬ (k = M.b ∨ k ∈ M.enS.blk) := fun k hk hbad => h.apart k hk (hbad.elim (fun e => by rw [e]; simp [RM.mut]) (fun e => mem_mut_en e))
  have hbs : ∀ k ∈ s.blk, k ≠ M.b := fun k hk e => (hbm k hk).elim (fun he => hba k (by simp [he]) e) (fun he => he (by rw [e]; simp [RM.mut]))
  have hb1 : M.b ∉ M.enS.blk := fun he => hba M.b (by simp [he]) rfl
  refine ⟨{ h with
    row := ?_
    tk := h.tk.chg hcm (fun k hk => hA k (Or.inl hk))
    hv := h.hv.chg hcm (fun k hk => hA k (Or.inr hk))
    en := ?_
    enn := by simp [RM.withEnd, hn, h.enn]
    de := h.de.chg hcm (fun k hk => hB k (by simp [hk]))
    ha := h.ha.chg hcm (fun k hk => hB k (by simp [hk]))
    di := h.di.chg hcm (fun k hk => hB k (by simp [hk]))
    tsk := fun t ht => (h.tsk t ht).chg hcm (fun k hk => hI k (by simp only [RM.imm, List.mem_flatMap]; exact ⟨t, ht, hk⟩)) (fun k hk => hB k (by simp only [List.mem_append, List.mem_flatMap]; exact Or.inr (Or.inr (Or.inr ⟨t, ht, hk⟩))))
    nodup := hnd'
    apart := ?_
    immlt := fun k hk => Nat.lt_of_lt_of_le (h.immlt k hk) hcm.size
    ends1 := by simp [RM.withEnd]; omega
    ends2 := by simp [RM.withEnd, List.getD]; omega
    endsle := ?_ }, hcm.mono (fun k _ hk => hk.elim (fun e => by rw [e]; simp [RM.mut]) (fun e => mem_mut_en e)), ?_⟩
  · have := (h.row.chg hc hb1).set 5 (.slice s.a s.n s.c)
    exact this
  · have e1 : ints (nats M.ends) ++ [.int .i64 M.tasks.length] = ints (nats (M.ends ++ [M.tasks.length])) := by simp [ints, nats]
    rw [e1] at ho
    exact ho.chg (Chg.setCell w1 ⟨M.b, 5, none⟩ _) (fun k hk => hbs k hk)
  · intro k hk hbad
    rw [hmut'] at hbad
    have hk' : k ∉ M.mut := h.apart k hk
    rw [hmut] at hk'
    simp only [List.mem_append, not_or] at hk' hbad
    rcases hbad with h1 | h1 | h1
    · rcases h1 with (h1 | h1) | h1
      · exact hk'.1.1.1 h1
      · exact hk'.1.1.2 h1
      · exact hk'.1.2 h1
    · rcases hb k h1 with h2 | h2
      · exact hk'.2.1 h2
      · have := h.immlt k hk; omega
    · rcases h1 with h1 | h1 | h1 | h1
      · exact hk'.2.2.1 h1
      · exact hk'.2.2.2.1 h1
      · exact hk'.2.2.2.2.1 h1
      · exact hk'.2.2.2.2.2 h1
  · intro e he
    simp only [RM.withEnd, List.mem_append, List.mem_singleton] at he
    rcases he with he | he
    · exact h.endsle e he
    · rw [he]; exact Nat.le_refl _
  · intro k hk
    simp only [RM.foot, List.mem_append] at hk
    rcases hk with hk | hk
    · rw [hmut'] at hk
      simp only [List.mem_append] at hk
      rcases hk with h1 | h1 | h1
      · left; simp only [RM.foot, List.mem_append]; left; rw [hmut]; simp only [List.mem_append]; exact Or.inl h1
      · rcases hb k h1 with h2 | h2
        · left; simp only [RM.foot, List.mem_append]; left; exact mem_mut_en h2
        · right; exact h2
      · left; simp only [RM.foot, List.mem_append]; left; rw [hmut]; simp only [List.mem_append]; exact Or.inr (Or.inr h1)
    · left; simp only [RM.foot, List.mem_append]; exact Or.inr hk

theorem RefAt.drew {w : World} {M : RM} (h : RefAt w M) : RefAt w.drew M := h.below (Below.refl _ _).drew

theorem RefAt.closed_le {w : World} {M : RM} (h : RefAt w M) : M.closed ≤ M.tasks.length ∧ M.ends.length ≤ M.closed := by
  refine ⟨?_, h.ends2⟩
  unfold RM.closed
  by_cases h0 : M.ends.length = 0
  · rw [List.eq_nil_of_length_eq_zero h0]; simp
  · have hk : M.ends.length - 1 < M.ends.length := by omega
    rw [nat_get hk]; exact h.endsle _ (List.getElem_mem hk)

set_option maxHeartbeats 2000000 in
set_option maxRecDepth 100000 in
theorem rCut_yes (M : RM) (w : World) (h : RefAt w M) (hlt : M.closed < M.tasks.length) :
    Calls Tryz.prog 43 #[.pointer (some ⟨M.b, 0, none⟩)] w fun e w' => ∃ s, e = .returned (.int .i64 (M.ends.length + 1 : Nat)) ∧ RefAt w' (M.withEnd s) ∧ Chg w w' (fun k => k ∈ M.mut) ∧ (∀ k ∈ (M.withEnd s).foot, k ∈ M.foot ∨ w.heap.size ≤ k) := by
  obtain ⟨i0, hi, hz0, hz1, hz2⟩ := info_parts Tryz.info3
  have c3 := h.row.cell' (i := 3) (v := .slice M.tkS.a M.tkS.n M.tkS.c) rfl
  have c5 := h.row.cell' (i := 5) (v := .slice M.enS.a M.enS.n M.enS.c) rfl
  have cf5 := h.row.frozen 5
  rw [h.tkn] at c3
  have hel := h.closed_le
  have ht := h.txns
  have hbl := h.row.lt
  have HC := hide (fun n => rclosed_any M (w.drewN n) (h.drewN n))
  have hlt' : (M.closed : Int) < (M.tasks.length : Int) := by omega
  have MM := hide (show M.enS.n + 1 ≤ maxLen by rw [h.enn]; unfold maxLen; omega)
  have QQ := hide (show (M.enS.n + 1) * 8 ≤ 140737488355328 by rw [h.enn]; omega)
  have HR := hide h
  clear h
  have HL := hide hlt
  generalize M.closed = C at *
  go_enter Tryz.func43, Tryz.ntmps43
  go_wp2
  go_quiet ((go_at_call 74; exact Calls.quiet_of (HC.out _)))
  go_wp2
  have HW := hide (HR.out.drewN nq)
  have CW := hide (Chg.drewN w nq (fun _ => False))
  have hsz : (w.drewN nq).heap.size = w.heap.size := rfl
  have d3 : (w.drewN nq).cell? ⟨M.b, 3, none⟩ = some (.slice M.tkS.a M.tasks.length M.tkS.c) := c3
  have d5 : (w.drewN nq).cell? ⟨M.b, 5, none⟩ = some (.slice M.enS.a M.enS.n M.enS.c) := c5
  have df : (w.drewN nq).frozen? ⟨M.b, 5, none⟩ = false := cf5
  have hbl' : M.b < (w.drewN nq).heap.size := hbl
  have SZ := hide hsz
  clear hsz c3 c5 cf5 HC hbl
  generalize w.drewN nq = W at *
  have P1 := hide (rowAt_alloc W [.int .i64 M.tasks.length] 3)
  have NB := hide (fun hk => HR.out.b_apart M.b (by simp only [List.mem_append]; exact Or.inr (Or.inr (Or.inl hk))) rfl : M.b ∉ M.enS.blk)
  go_region_law (go_must (refine step_append_sl rfl (.tmp 15) (.tmp 21) 30 rfl 3 i0 (.int .i64 0) 1 8 Tryz.underlying30 hi hz0 hz1 hz2 rfl (by decide) M.enS (ints (nats M.ends)) rfl (HW.out.en.below (by first | exact (below_alloc1 _ _).drew | exact (Below.refl _ _).drew.alloc (Nat.le_refl _) _)) (some ⟨W.heap.size, 0, none⟩) 1 1 [.int .i64 M.tasks.length] rfl rfl (by simp) (fun ad had j u hu => by cases had; rw [addr_add, Nat.zero_add]; first | exact (P1.out.drew).cell' hu | exact P1.out.cell' hu) (by simp [Value.oneCell']) MM.out QQ.out ?_; intro s1 w1 ow1 sn1 ch1 bl1; have OW := hide ow1; have SN := hide sn1; have CH := hide ch1; have BL := hide bl1; have f5 := ((by first | exact ((HW.out.row.alloc _).drew.chg ch1 NB.out) | exact ((HW.out.row.drew.alloc _).chg ch1 NB.out) : RowAt w1 M.b 42 M.row)); have g5 := f5.cell' (i := 5) rfl; have gf := f5.frozen 5; clear ow1 sn1 ch1 bl1 f5))
  all_goals
    have hcc : Chg w w1 (fun k => k ∈ M.enS.blk) := (CW.out.mono (fun _ _ h => h.elim)).trans ((Chg.of_below (below_alloc1 W (.cells #[.int .i64 M.tasks.length] 3)).drew _).trans CH.out)
    have hbb : ∀ k ∈ s1.blk, k ∈ M.enS.blk ∨ w.heap.size ≤ k := fun k hk => (BL.out k hk).imp id (fun h => by rw [h, ← SZ.out]; show W.heap.size ≤ (W.alloc _).heap.size; simp)
    obtain ⟨r1, r2, r3⟩ := refAt_withEnd (sv := .slice s1.a s1.n s1.c) HR.out (by omega) OW.out SN.out hcc hbb rfl
    have RR := hide r1; have CC := hide r2; have FF := hide r3
    have hn := hide (show s1.n = M.ends.length + 1 by rw [SN.out, HR.out.enn])
    have hs1 : s1.n ≤ 151 := by rw [hn.out]; omega
    clear r1 r2 r3 hcc hbb OW SN CH BL HW CW d3 d5 df P1
    go_wp2
    go_ret
    exact ⟨s1, ret_int (by rw [hn.out]), RR.out, CC.out, FF.out⟩

set_option maxHeartbeats 2000000 in
set_option maxRecDepth 100000 in
theorem rCut_no (M : RM) (w : World) (h : RefAt w M) (hlt : ¬ M.closed < M.tasks.length) :
    Calls Tryz.prog 43 #[.pointer (some ⟨M.b, 0, none⟩)] w fun e w' => e = .returned (.int .i64 M.ends.length) ∧ ∃ n, w' = w.drewN n := by
  have c3 := h.row.cell' (i := 3) (v := .slice M.tkS.a M.tkS.n M.tkS.c) rfl
  have c5 := h.row.cell' (i := 5) (v := .slice M.enS.a M.enS.n M.enS.c) rfl
  rw [h.tkn] at c3
  rw [h.enn] at c5
  have ht := h.txns
  have ht1 := h.ends1
  have hbl := h.row.lt
  have HC := hide (fun n => rclosed_any M (w.drewN n) (h.drewN n))
  have hlt' : ¬ (M.closed : Int) < (M.tasks.length : Int) := by omega
  clear h
  generalize M.closed = C at *
  go_enter Tryz.func43, Tryz.ntmps43
  go_wp2
  go_quiet ((go_at_call 74; exact Calls.quiet_of (HC.out _)))
  go_wp2
  go_ret
  exact ⟨rfl, _, rfl⟩

end Go.Proofs.YtlheloogmgmjnaaGreat

namespace Go.Proofs.YtlheloogmgmjnaaGreat
open Go.RowKit

/-- What Show tells. -/
def RM.state (M : RM) : List Value := [.int .i64 M.tasks.length, .int .i64 M.ends.length, .int .i64 M.ready, .int .i64 M.done, .int .i64 M.mark, .int .i64 M.used, .int .i64 M.live]

set_option maxHeartbeats 2000000 in
set_option maxRecDepth 100000 in
theorem rShow_any (M : RM) (w : World) (h : RefAt w M) :
    Calls Tryz.prog 44 #[.pointer (some ⟨M.b, 0, none⟩)] w fun e w' => e = .returned (.agg M.state.toArray) ∧ Below w.heap.size w w' := by
  have hbl := h.row.lt
  have HW := hide (h.below (below_alloc1 w (.cells #[.int .i64 0, .int .i64 0, .int .i64 0, .int .i64 0, .int .i64 0, .int .i64 0, .int .i64 0] 73)))
  have RZ := hide (rowAt_alloc w [.int .i64 0, .int .i64 0, .int .i64 0, .int .i64 0, .int .i64 0, .int .i64 0, .int .i64 0] 73)
  have BW := hide (below_alloc1 w (.cells #[.int .i64 0, .int .i64 0, .int .i64 0, .int .i64 0, .int .i64 0, .int .i64 0, .int .i64 0] 73))
  clear h
  have hne : ¬ (M.b = w.heap.size) := by omega
  go_enter Tryz.func44, Tryz.ntmps44
  go_wp2
  generalize w.alloc (.cells #[.int .i64 0, .int .i64 0, .int .i64 0, .int .i64 0, .int .i64 0, .int .i64 0, .int .i64 0] 73) = W at *
  have c3 := HW.out.row.cell' (i := 3) (v := .slice M.tkS.a M.tkS.n M.tkS.c) rfl
  have c5 := HW.out.row.cell' (i := 5) (v := .slice M.enS.a M.enS.n M.enS.c) rfl
  rw [HW.out.tkn] at c3
  rw [HW.out.enn] at c5
  have z0 := RZ.out.cell' (i := 0) rfl
  have z1 := RZ.out.cell' (i := 1) rfl
  have z2 := RZ.out.cell' (i := 2) rfl
  have z3 := RZ.out.cell' (i := 3) rfl
  have z4 := RZ.out.cell' (i := 4) rfl
  have z5 := RZ.out.cell' (i := 5) rfl
  have z6 := RZ.out.cell' (i := 6) rfl
  have zf := RZ.out.frozen
  go_region_held (fun w' => w'.cell? ⟨M.b, 3, none⟩ = some (.slice M.tkS.a M.tasks.length M.tkS.c) ∧ w'.cell? ⟨M.b, 5, none⟩ = some (.slice M.enS.a M.ends.length M.enS.c))
    (first | (refine ⟨?_, ?_⟩ <;> simp [c3, c5]; done) | (refine ⟨cell_chg (D := (· = w.heap.size)) ?_ c3 hne, cell_chg (D := (· = w.heap.size)) ?_ c5 hne⟩ <;> exact ((((((((Chg.drewN W _ (· = w.heap.size)).put _ _ rfl).put _ _ rfl).put _ _ rfl).put _ _ rfl).put _ _ rfl).put _ _ rfl).put _ _ rfl)))
    (first
      | (go_at_call 75; refine (rready_any M _ (by first | exact HW.out.drew | exact HW.out.drewN _ | exact (HW.out.drewN _).drew)).mono ?_; rintro e w2 ⟨rfl, n1, rfl⟩)
      | (go_at_call 76; refine (rdone_any M _ (by first | exact HW.out.drew | exact HW.out.drewN _ | exact (HW.out.drewN _).drew | exact (HW.out.drew).drewN _)).mono ?_; rintro e w2 ⟨rfl, rfl⟩)
      | (go_at_call 77; refine (rmark_any M _ (by first | exact HW.out.drew | exact HW.out.drewN _ | exact (HW.out.drewN _).drew | exact (HW.out.drew).drewN _)).mono ?_; rintro e w2 ⟨rfl, rfl⟩)
      | (go_at_call 78; refine (rused_any M _ (by first | exact HW.out.drew | exact HW.out.drewN _ | exact (HW.out.drewN _).drew | exact (HW.out.drew).drewN _)).mono ?_; rintro e w2 ⟨rfl, rfl⟩)
      | (go_at_call 79; refine (rlive_any M _ (by first | exact HW.out.drew | exact HW.out.drewN _ | exact (HW.out.drewN _).drew | exact (HW.out.drew).drewN _)).mono ?_; rintro e w2 ⟨rfl, n2, rfl⟩))
  have q := ((((((((RZ.out.drewN (1 + n1 + n2)).set 0 (.int .i64 M.tasks.length)).set 1 (.int .i64 M.ends.length)).set 2 (.int .i64 M.ready)).set 3 (.int .i64 M.done)).set 4 (.int .i64 M.mark)).set 5 (.int .i64 M.used)).set 6 (.int .i64 M.live))
  have b := BW.out.trans (((((((((Chg.drewN W (1 + n1 + n2) (· = w.heap.size)).put ⟨w.heap.size, 0, none⟩ (.int .i64 M.tasks.length) rfl).put ⟨w.heap.size, 1, none⟩ (.int .i64 M.ends.length) rfl).put ⟨w.heap.size, 2, none⟩ (.int .i64 M.ready) rfl).put ⟨w.heap.size, 3, none⟩ (.int .i64 M.done) rfl).put ⟨w.heap.size, 4, none⟩ (.int .i64 M.mark) rfl).put ⟨w.heap.size, 5, none⟩ (.int .i64 M.used) rfl).put ⟨w.heap.size, 6, none⟩ (.int .i64 M.live) rfl).belowB (B := w.heap.size) (fun k hk => by omega) BW.out.size)
  generalize ((((((((W.drewN (1 + n1 + n2)).setCell ⟨w.heap.size, 0, none⟩ (.int .i64 M.tasks.length)).setCell ⟨w.heap.size, 1, none⟩ (.int .i64 M.ends.length)).setCell ⟨w.heap.size, 2, none⟩ (.int .i64 M.ready)).setCell ⟨w.heap.size, 3, none⟩ (.int .i64 M.done)).setCell ⟨w.heap.size, 4, none⟩ (.int .i64 M.mark)).setCell ⟨w.heap.size, 5, none⟩ (.int .i64 M.used)).setCell ⟨w.heap.size, 6, none⟩ (.int .i64 M.live)) = w9 at *
  have y0 := q.cell' (i := 0) rfl
  have y1 := q.cell' (i := 1) rfl
  have y2 := q.cell' (i := 2) rfl
  have y3 := q.cell' (i := 3) rfl
  have y4 := q.cell' (i := 4) rfl
  have y5 := q.cell' (i := 5) rfl
  have y6 := q.cell' (i := 6) rfl
  clear HW RZ BW c3 c5 z0 z1 z2 z3 z4 z5 z6 zf
  go_wp2
  exact bodyPost_ret (v := .agg #[.int .i64 M.tasks.length, .int .i64 M.ends.length, .int .i64 M.ready, .int .i64 M.done, .int .i64 M.mark, .int .i64 M.used, .int .i64 M.live]) (by simp [results, Tryz.results44, go_sem, y0, y1, y2, y3, y4, y5, y6]) rfl ⟨rfl, b⟩

end Go.Proofs.YtlheloogmgmjnaaGreat

namespace Go.Proofs.YtlheloogmgmjnaaGreat
open Go.RowKit

set_option maxHeartbeats 2000000 in
set_option maxRecDepth 100000 in
theorem rSubmit_bad (M : RM) (w : World) (hd : TH) (t : Tx) (hx : TxAt w hd t) (hc : checkN t ≠ 0) :
    Calls Tryz.prog 73 #[.pointer (some ⟨M.b, 0, none⟩), .agg hd.cells] w fun e w' => e = .returned (.tuple #[.int .i64 0, .int .i64 (checkN t)]) ∧ Below w.heap.size w w' := by
  have RC := hide (fun wx (hb : Below w.heap.size w wx) => rCheck_any hd t wx (hx.below hb))
  clear hx
  obtain ⟨⟨ra, rn, rc⟩, ⟨wa, wn, wc⟩, ⟨ca, cn, cc⟩⟩ := hd
  simp only [TH.cells] at RC
  show Calls Tryz.prog 73 #[.pointer (some ⟨M.b, 0, none⟩), .agg #[.slice ra rn rc, .slice wa wn wc, .slice ca cn cc]] w _
  generalize checkN t = e at *
  have he : (e != 0) = true := by rw [bne_iff_ne]; exact hc
  clear hc
  go_enter Tryz.func73, Tryz.ntmps73
  go_wp2_with fail
  refine (RC.out _ (below_alloc1 _ _)).mono ?_
  rintro e w1 ⟨rfl, hb1⟩
  go_wp2
  go_ret2
  exact ⟨rfl, below_alloc hb1⟩

set_option maxHeartbeats 2000000 in
set_option maxRecDepth 100000 in
theorem rSubmit_many (M : RM) (w : World) (h : RefAt w M) (hd : TH) (t : Tx) (hx : TxAt w hd t) (hc : checkN t = 0) (hm : 150 ≤ M.tasks.length) :
    Calls Tryz.prog 73 #[.pointer (some ⟨M.b, 0, none⟩), .agg hd.cells] w fun e w' => e = .returned (.tuple #[.int .i64 0, .int .i64 6]) ∧ Below w.heap.size w w' := by
  have RC := hide (fun wx (hb : Below w.heap.size w wx) => rCheck_any hd t wx (hx.below hb))
  rw [hc] at RC
  have H := hide (fun wx (hb : Below w.heap.size w wx) => (h.below hb).row.cell' (i := 3) (v := .slice M.tkS.a M.tkS.n M.tkS.c) rfl)
  rw [h.tkn] at H
  have hm' : (150 : Int) ≤ (M.tasks.length : Int) := by omega
  clear h hx hc
  obtain ⟨⟨ra, rn, rc⟩, ⟨wa, wn, wc⟩, ⟨ca, cn, cc⟩⟩ := hd
  simp only [TH.cells] at RC
  show Calls Tryz.prog 73 #[.pointer (some ⟨M.b, 0, none⟩), .agg #[.slice ra rn rc, .slice wa wn wc, .slice ca cn cc]] w _
  go_enter Tryz.func73, Tryz.ntmps73
  go_wp2_with fail
  refine (RC.out _ (below_alloc1 _ _)).mono ?_
  rintro e w1 ⟨rfl, hb1⟩
  have c3 := H.out w1 (below_alloc hb1)
  go_wp2
  go_ret2
  exact ⟨rfl, below_alloc hb1⟩

set_option maxHeartbeats 2000000 in
set_option maxRecDepth 100000 in
theorem rSubmit_full (M : RM) (w : World) (h : RefAt w M) (hd : TH) (t : Tx) (hx : TxAt w hd t) (hc : checkN t = 0) (hm : M.tasks.length < 150) (hf : M.room < M.used + t.w.length) :
    Calls Tryz.prog 73 #[.pointer (some ⟨M.b, 0, none⟩), .agg hd.cells] w fun e w' => e = .returned (.tuple #[.int .i64 0, .int .i64 7]) ∧ Below w.heap.size w w' := by
  have RC := hide (fun wx (hb : Below w.heap.size w wx) => rCheck_any hd t wx (hx.below hb))
  obtain ⟨_, _, w6, _⟩ := checkN_sound t hc
  rw [hc] at RC
  have H := hide (fun wx (hb : Below w.heap.size w wx) => (h.below hb).row.cell' (i := 3) (v := .slice M.tkS.a M.tkS.n M.tkS.c) rfl)
  rw [h.tkn] at H
  have H2 := hide (fun wx (hb : Below w.heap.size w wx) => (h.below hb).row.cell' (i := 2) (v := .int .i64 M.room) rfl)
  have US := hide (fun wx (hb : Below w.heap.size w wx) => rused_any M wx (h.below hb))
  have hul : M.used ≤ 900 := by
    have h1 : ∀ n, ((M.tasks.take n).map fun t => stay t.gone).sum ≤ n * 6 := by
      intro n
      induction n with
      | zero => simp
      | succ n ih =>
        by_cases hn : n < M.tasks.length
        · rw [sum_take_succ M.tasks (fun t => stay t.gone) hn]
          have hT := h.tsk _ (List.getElem_mem hn)
          have := stay_le M.tasks[n].gone
          have := (checkN_sound _ hT.chk).2.2.1
          have := hT.gonel
          omega
        · rw [List.take_of_length_le (by omega)]; rw [List.take_of_length_le (by omega)] at ih; omega
    have := h1 M.tasks.length
    rw [List.take_length] at this
    have := h.txns
    unfold RM.used; omega
  have hwl := hx.wl
  have hr := h.room500
  clear h hx hc
  obtain ⟨⟨ra, rn, rc⟩, ⟨wa, wn, wc⟩, ⟨ca, cn, cc⟩⟩ := hd
  simp only [TH.cells] at RC hwl
  subst hwl
  show Calls Tryz.prog 73 #[.pointer (some ⟨M.b, 0, none⟩), .agg #[.slice ra rn rc, .slice wa t.w.length wc, .slice ca cn cc]] w _
  have hf' : (M.room : Int) < (M.used : Int) + (t.w.length : Int) := by omega
  generalize M.used = U at *
  go_enter Tryz.func73, Tryz.ntmps73
  go_wp2_with fail
  refine (RC.out _ (below_alloc1 _ _)).mono ?_
  rintro e w1 ⟨rfl, hb1⟩
  have A1 := hide ((rowAt_alloc w [.slice ra rn rc, .slice wa t.w.length wc, .slice ca cn cc] 33).below' hb1)
  have B1 := hide (below_alloc hb1)
  have c3 := H.out w1 B1.out
  have c2 := H2.out w1 B1.out
  have a1 := A1.out.cell' (i := 1) rfl
  have US1 := hide (fun n => US.out (w1.drewN n) (below_drewN B1.out n))
  clear hb1 A1 H H2 RC US
  go_wp2
  go_quiet ((go_at_call 78; exact Calls.quiet_of_same (US1.out _)))
  go_wp2
  go_ret2
  exact ⟨rfl, below_drewN B1.out _⟩

end Go.Proofs.YtlheloogmgmjnaaGreat

namespace Go.Proofs.YtlheloogmgmjnaaGreat
open Go.RowKit

/-- What the keys have when the first k slots have been laid. -/
def putTo (hv : List Slot) (ks : List Int) (ws : List Slot) : Nat → List Slot
  | 0 => hv
  | k + 1 => (putTo hv ks ws k).set (ks.getD k 0).toNat (ws.getD k Slot.none)
theorem putTo_len (hv : List Slot) (ks : List Int) (ws : List Slot) (k : Nat) : (putTo hv ks ws k).length = hv.length := by
  induction k with
  | zero => rfl
  | succ k ih => simp [putTo, ih]

/-- The store behind one transaction more. -/
def RM.withTask (M : RM) (T : Tsk) (hv : List Slot) (s : Sl) : RM := { M with tasks := M.tasks ++ [T], hv := hv, tkS := s }

theorem refAt_withTask {w w1 : World} {M : RM} {T : Tsk} {hv : List Slot} {s : Sl} (h : RefAt w M) (hlt : M.tasks.length < 150) (hvl : hv.length = 24) (hT : TskAt w1 T) (hTg : ∀ k ∈ T.goneS.blk, w.heap.size ≤ k) (hTi : ∀ k ∈ T.imm, w.heap.size ≤ k ∧ k < w1.heap.size) (hTa : ∀ k ∈ T.imm, k ∉ T.goneS.blk)
    (hS : ∀ k ∈ s.blk, k ∈ M.tkS.blk ∨ (w.heap.size ≤ k ∧ k ∉ T.goneS.blk ∧ k ∉ T.imm))
    (hrow : RowAt w1 M.b 42 (M.withTask T hv s).row) (ho : Own w1 171 10 s ((M.tasks ++ [T]).flatMap Tsk.row)) (hn : s.n = M.tasks.length + 1) (hH : Own w1 172 2 M.hvS (slotCells hv))
    (hc : Chg w w1 (fun k => k = M.b ∨ k ∈ M.tkS.blk ∨ k ∈ M.hvS.blk)) :
    RefAt w1 (M.withTask T hv s) ∧ Chg w w1 (fun k => k ∈ M.mut) ∧ (∀ k ∈ (M.withTask T hv s).foot, k ∈ M.foot ∨ w.heap.size ≤ k) := by
  have hmut : M.mut = [M.b] ++ (M.tkS.blk ++ (M.hvS.blk ++ (M.enS.blk ++ (M.deS.blk ++ (M.haS.blk ++ (M.diS.blk ++ M.tasks.flatMap fun t => t.goneS.blk)))))) := by simp [RM.mut]
  have hmut' : (M.withTask T hv s).mut = ([M.b] ++ (s.blk ++ (M.hvS.blk ++ (M.enS.blk ++ (M.deS.blk ++ (M.haS.blk ++ (M.diS.blk ++ M.tasks.flatMap fun t => t.goneS.blk))))))) ++ T.goneS.blk := by simp [RM.mut, RM.withTask]
  have himm' : (M.withTask T hv s).imm = M.imm ++ T.imm := by simp [RM.imm, RM.withTask]
  have hlt' := h.mut_lt
  have hd1 := nodup_disj (A := [M.b]) (E := M.tkS.blk) (by rw [← hmut]; exact h.nodup)
  have hd2 := nodup_disj (A := [M.b] ++ M.tkS.blk) (E := M.hvS.blk) (B := M.enS.blk ++ (M.deS.blk ++ (M.haS.blk ++ (M.diS.blk ++ M.tasks.flatMap fun t => t.goneS.blk)))) (by have := h.nodup; rw [hmut] at this; simpa using this)
  have hba := h.b_apart
  have rest : ∀ k ∈ M.enS.blk ++ (M.deS.blk ++ (M.haS.blk ++ (M.diS.blk ++ M.tasks.flatMap fun t => t.goneS.blk))), ¬ (k = M.b ∨ k ∈ M.tkS.blk ∨ k ∈ M.hvS.blk) := by
    intro k hk hbad
    rcases hbad with e | e | e
    · exact hba k (by simp only [List.mem_append] at hk ⊢; exact Or.inr (Or.inr hk)) e
    · exact hd1.2 k (by simp only [List.mem_append] at hk ⊢; exact Or.inr hk) e
    · exact hd2.2 k hk e
  have hI : ∀ k ∈ M.imm, ¬ (k = M.b ∨ k ∈ M.tkS.blk ∨ k ∈ M.hvS.blk) := fun k hk hbad => h.apart k hk (by rw [hmut]; simp only [List.mem_append, List.mem_singleton]; exact hbad.imp id (Or.imp id Or.inl))
  have hnd0 : ([M.b] ++ (s.blk ++ (M.hvS.blk ++ (M.enS.blk ++ (M.deS.blk ++ (M.haS.blk ++ (M.diS.blk ++ M.tasks.flatMap fun t => t.goneS.blk))))))).Nodup := by
    have := h.nodup; rw [hmut] at this
    refine nodup_replace this (blk_le1 s) (fun k hk => ?_)
    rcases hS k hk with h1 | h1
    · exact Or.inl h1
    · right; rw [← hmut]; intro h2; have := hlt' k h2; omega
  have hmem : ∀ k ∈ [M.b] ++ (s.blk ++ (M.hvS.blk ++ (M.enS.blk ++ (M.deS.blk ++ (M.haS.blk ++ (M.diS.blk ++ M.tasks.flatMap fun t => t.goneS.blk)))))), k ∈ M.mut ∨ k ∈ s.blk := by
    intro k hk
    rw [hmut]
    simp only [List.mem_append] at hk ⊢
    rcases hk with hk | hk | hk
    · exact Or.inl (Or.inl hk)
    · exact Or.inr hk
    · exact Or.inl (Or.inr (Or.inr hk))
  have hnd' : (M.withTask T hv s).mut.Nodup := by
    rw [hmut', List.nodup_append]
    refine ⟨hnd0, ?_, ?_⟩
    · have := blk_le1 T.goneS
      match hq : T.goneS.blk, this with
      | [], _ => simp
      | [x], _ => simp
    · intro a ha b hb e
      subst e
      rcases hmem a ha with h1 | h1
      · have := hlt' a h1; have := hTg a hb; omega
      · rcases hS a h1 with h2 | h2
        · have := hlt' a (by rw [hmut]; simp [h2]); have := hTg a hb; omega
        · exact h2.2.1 hb
  refine ⟨?_, hc.mono (fun k _ hk => by rw [hmut]; simp only [List.mem_append, List.mem_singleton]; exact hk.imp id (Or.imp id Or.inl)), ?_⟩
  · exact { h with
      row := hrow
      tk := ho
      tkn := by simp [RM.withTask, hn]
      hv := hH
      hvl := hvl
      en := h.en.chg hc (fun k hk => rest k (by simp [hk]))
      de := h.de.chg hc (fun k hk => rest k (by simp [hk]))
      ha := h.ha.chg hc (fun k hk => rest k (by simp [hk]))
      di := h.di.chg hc (fun k hk => rest k (by simp [hk]))
      tsk := by
        intro t ht
        simp only [RM.withTask, List.mem_append, List.mem_singleton] at ht
        rcases ht with ht | rfl
        · exact (h.tsk t ht).chg hc (fun k hk => hI k (by simp only [RM.imm, List.mem_flatMap]; exact ⟨t, ht, hk⟩)) (fun k hk => rest k (by simp only [List.mem_append, List.mem_flatMap]; exact Or.inr (Or.inr (Or.inr (Or.inr ⟨t, ht, hk⟩)))))
        · exact hT
      nodup := hnd'
      apart := by
        intro k hk hbad
        rw [himm'] at hk
        rw [hmut'] at hbad
        rcases List.mem_append.1 hk with h1 | h1
        · have hk1 := h.immlt k h1
          rcases List.mem_append.1 hbad with h2 | h2
          · rcases hmem k h2 with h3 | h3
            · exact h.apart k h1 h3
            · rcases hS k h3 with h4 | h4
              · exact h.apart k h1 (by rw [hmut]; simp [h4])
              · omega
          · have := hTg k h2; omega
        · have hk1 := hTi k h1
          rcases List.mem_append.1 hbad with h2 | h2
          · rcases hmem k h2 with h3 | h3
            · have := hlt' k h3; omega
            · rcases hS k h3 with h4 | h4
              · have := hlt' k (by rw [hmut]; simp [h4]); omega
              · exact h4.2.2 h1
          · exact hTa k h1 h2
      immlt := by
        intro k hk
        rw [himm'] at hk
        rcases List.mem_append.1 hk with h1 | h1
        · exact Nat.lt_of_lt_of_le (h.immlt k h1) hc.size
        · exact (hTi k h1).2
      txns := by simp [RM.withTask]; omega
      ends1 := by have := h.ends1; simp [RM.withTask]; omega
      endsle := fun e he => by have := h.endsle e he; simp [RM.withTask]; omega
      dealtle := fun e he => by have := h.dealtle e he; simp [RM.withTask]; omega }
  · intro k hk
    simp only [RM.foot, List.mem_append] at hk ⊢
    rcases hk with hk | hk
    · rw [hmut'] at hk
      rcases List.mem_append.1 hk with h2 | h2
      · rcases hmem k h2 with h3 | h3
        · exact Or.inl (Or.inl h3)
        · rcases hS k h3 with h4 | h4
          · left; left; rw [hmut]; simp [h4]
          · exact Or.inr h4.1
      · exact Or.inr (hTg k h2)
    · rw [himm'] at hk
      rcases List.mem_append.1 hk with h1 | h1
      · exact Or.inl (Or.inr h1)
      · exact Or.inr (hTi k h1).1

end Go.Proofs.YtlheloogmgmjnaaGreat

namespace Go.Proofs.YtlheloogmgmjnaaGreat
open Go.RowKit

/-- A transaction's row lies in block g, made behind W, with all that it leads to. -/
structure Laid (W w : World) (g : Nat) (T : Tsk) : Prop where
  row : RowAt w g 171 T.row
  tsk : TskAt w T
  g0 : W.heap.size ≤ g
  gone0 : ∀ k ∈ T.goneS.blk, W.heap.size ≤ k ∧ k ≠ g
  imm0 : ∀ k ∈ T.didS.blk ++ (T.wsS.blk ++ T.saidS.blk), W.heap.size ≤ k ∧ k < w.heap.size ∧ k ∉ T.goneS.blk ∧ k ≠ g
  below : Below W.heap.size W w

theorem BoolsAt.below {w w' : World} {ao : Option Addr} {xs : List Bool} (h : BoolsAt w ao xs) (hb : Below w.heap.size w w') : BoolsAt w' ao xs := h.chg (Chg.of_below hb (fun _ => False)) (fun _ _ => id)

theorem mem_blk {s : Sl} {a : Addr} (h : s.a = some a) : a.block ∈ s.blk := by simp [Sl.blk, h]

theorem laid_of {W w3 w4 : World} {g gg lo hi : Nat} {t : Tx} {c : Crs} {h' : TH} {sd sw ss : Sl} (hTx : ∀ wx, Below W.heap.size W wx → TxAt wx h' t) (hchk : checkN t = 0) (hwl : c.ws.length = t.w.length) (hsl : c.said.length = t.w.length)
    (h1 : IntsAt w3 sd.a (nats c.did)) (n1 : sd.n = c.did.length) (h2 : SlotsAt w3 sw.a c.ws) (n2 : sw.n = c.ws.length) (h3 : BoolsAt w3 ss.a c.said) (n3 : ss.n = c.said.length)
    (hb : ∀ k ∈ sd.blk ++ (sw.blk ++ ss.blk), lo ≤ k ∧ k < hi) (hlo : W.heap.size ≤ lo) (hhi : hi ≤ w3.heap.size) (hg : g < lo ∨ hi ≤ g) (hgg : gg < lo ∨ hi ≤ gg) (hne : gg ≠ g) (hWg : W.heap.size ≤ g) (hWgg : W.heap.size ≤ gg)
    (hR : RowAt w3 gg 4 (bools (List.replicate t.w.length false))) (hC : Chg w3 w4 (· = g)) (hs : w4.heap.size = w3.heap.size)
    (hRow : RowAt w4 g 171 (Tsk.row ⟨t, c, false, List.replicate t.w.length false, h', sd, sw, ss, ⟨some ⟨gg, 0, none⟩, t.w.length, t.w.length⟩⟩)) (hB : Below W.heap.size W w3) :
    Laid W w4 g ⟨t, c, false, List.replicate t.w.length false, h', sd, sw, ss, ⟨some ⟨gg, 0, none⟩, t.w.length, t.w.length⟩⟩ := by
  have hB4 : Below W.heap.size W w4 := hB.trans (hC.belowB (fun k hk => by subst hk; exact hWg) hB.size)
  have w6 := (checkN_sound t hchk).2.2.1
  have hne' : ∀ k ∈ sd.blk ++ (sw.blk ++ ss.blk), k ≠ g := fun k hk => by have := hb k hk; omega
  refine ⟨hRow, ⟨hTx _ hB4, h1.chg hC (fun a e => hne' _ (by simp [mem_blk e])), n1, h2.chg hC (fun a e => hne' _ (by simp [mem_blk e])), n2, hwl, h3.chg hC (fun a e => hne' _ (by simp [mem_blk e])), n3, hsl, ?_, by simp, by simp, hchk⟩, hWg, ?_, ?_, hB4⟩
  · exact Own.of_row (hR.chg hC hne) (by simp [bools]) (by unfold maxLen; omega)
  · intro k hk; simp [Sl.blk] at hk; subst hk; exact ⟨hWgg, hne⟩
  · intro k hk
    have := hb k hk
    refine ⟨by omega, by omega, ?_, hne' k hk⟩
    simp [Sl.blk]; omega

/-- The store behind Submit's append. -/
theorem refAt_sub {w W X wr w0 w1 : World} {M : RM} {T : Tsk} {s : Sl} {hv : List Slot} {g gh cB : Nat} {sv : Value} (h : RefAt w M) (hBW : Below w.heap.size w W) (hLD : Laid W X g T) (hch : Chg X wr (· = gh)) (hgh : M.hvS.a = some ⟨gh, 0, none⟩)
    (hown : Own wr 172 2 M.hvS (slotCells hv)) (hvl : hv.length = 24) (hb0 : Below wr.heap.size wr w0) (hap : Own w1 171 10 s (M.tasks.flatMap Tsk.row ++ T.row)) (hn : s.n = M.tkS.n + 1)
    (hc1 : Chg w0 w1 (fun k => k ∈ M.tkS.blk)) (hbl : ∀ k ∈ s.blk, k ∈ M.tkS.blk ∨ k = w0.heap.size) (hblks : ∀ k ∈ T.h.blks, w.heap.size ≤ k ∧ k < cB) (hcB : cB < W.heap.size) (hlt : M.tasks.length < 150) (hsv : sv = .slice s.a s.n s.c) :
    RefAt (w1.setCell ⟨M.b, 3, none⟩ sv) (M.withTask T hv s) ∧ Chg w (w1.setCell ⟨M.b, 3, none⟩ sv) (fun k => k ∈ M.mut) ∧ (∀ k ∈ (M.withTask T hv s).foot, k ∈ M.foot ∨ w.heap.size ≤ k) := by
  subst hsv
  have hmut : M.mut = [M.b] ++ (M.tkS.blk ++ (M.hvS.blk ++ (M.enS.blk ++ (M.deS.blk ++ (M.haS.blk ++ (M.diS.blk ++ M.tasks.flatMap fun t => t.goneS.blk)))))) := by simp [RM.mut]
  have hlt' := h.mut_lt
  have hba := h.b_apart
  have hd2 := nodup_disj (A := [M.b] ++ M.tkS.blk) (E := M.hvS.blk) (B := M.enS.blk ++ (M.deS.blk ++ (M.haS.blk ++ (M.diS.blk ++ M.tasks.flatMap fun t => t.goneS.blk)))) (by have := h.nodup; rw [hmut] at this; simpa using this)
  have hghm : gh ∈ M.hvS.blk := by simp [Sl.blk, hgh]
  have hhv : ∀ k ∈ M.hvS.blk, k = gh := fun k hk => by simpa [Sl.blk, hgh] using hk
  have htm : ∀ k ∈ M.tkS.blk, k ∈ M.mut := fun k hk => by simp [RM.mut, hk]
  have hhm : ∀ k ∈ M.hvS.blk, k ∈ M.mut := fun k hk => by simp [RM.mut, hk]
  have hbm : M.b ∈ M.mut := by simp [RM.mut]
  have hwW := hBW.size
  have hWX := hLD.below.size
  have hXr := hch.size
  have hr0 := hb0.size
  have h01 := hc1.size
  have hg0 := hLD.g0
  have ghw := hlt' gh (hhm gh hghm)
  -- what turns from X on
  have hXF : Chg X (w1.setCell ⟨M.b, 3, none⟩ (.slice s.a s.n s.c)) (fun k => k = M.b ∨ k ∈ M.tkS.blk ∨ k ∈ M.hvS.blk) :=
    ((hch.mono (fun k _ hk => by subst hk; exact Or.inr (Or.inr hghm))).trans ((Chg.of_below hb0 _).trans (hc1.mono (fun k _ hk => Or.inr (Or.inl hk))))).put ⟨M.b, 3, none⟩ _ (Or.inl rfl)
  have hwF : Chg w (w1.setCell ⟨M.b, 3, none⟩ (.slice s.a s.n s.c)) (fun k => k = M.b ∨ k ∈ M.tkS.blk ∨ k ∈ M.hvS.blk) :=
    ((Chg.of_below (hBW.trans (hLD.below.mono hwW)) _)).trans hXF
  have hold : ∀ k, w.heap.size ≤ k → ¬ (k = M.b ∨ k ∈ M.tkS.blk ∨ k ∈ M.hvS.blk) := fun k hk hbad => by
    rcases hbad with e | e | e
    · have := hlt' M.b hbm; omega
    · have := hlt' k (htm k e); omega
    · have := hlt' k (hhm k e); omega
  have himm : ∀ k ∈ T.imm, w.heap.size ≤ k ∧ k < X.heap.size ∧ k ∉ T.goneS.blk := by
    intro k hk
    simp only [Tsk.imm] at hk
    have e : T.h.r.blk ++ (T.h.w.blk ++ (T.h.c.blk ++ (T.didS.blk ++ (T.wsS.blk ++ T.saidS.blk)))) = T.h.blks ++ (T.didS.blk ++ (T.wsS.blk ++ T.saidS.blk)) := by simp [TH.blks]
    rw [e] at hk
    rcases List.mem_append.1 hk with hk | hk
    · have := hblks k hk
      refine ⟨this.1, by omega, fun hbad => ?_⟩
      have := (hLD.gone0 k hbad).1; omega
    · have := hLD.imm0 k hk
      exact ⟨by omega, this.2.1, this.2.2.1⟩
  have hTg : ∀ k ∈ T.goneS.blk, w.heap.size ≤ k := fun k hk => by have := (hLD.gone0 k hk).1; omega
  have hTg2 : ∀ k ∈ T.goneS.blk, k < X.heap.size := hLD.tsk.gone.blk_lt
  have hsF : (w1.setCell ⟨M.b, 3, none⟩ (.slice s.a s.n s.c)).heap.size = w1.heap.size := size_setCell_eq _ _ _
  have hbs : ∀ k ∈ s.blk, k ≠ M.b := fun k hk e => by
    rcases hbl k hk with h1 | h1
    · exact hba k (by simp [h1]) e
    · have := hlt' M.b hbm; omega
  have hrw1 : RowAt w1 M.b 42 M.row := by
    have h0 : RowAt X M.b 42 M.row := (h.row.below' hBW).below' hLD.below
    have h1 := h0.chg hch (fun e => hba gh (by simp [hghm]) e.symm)
    exact (h1.below' hb0).chg hc1 (fun e => hba M.b (by simp [e]) rfl)
  refine refAt_withTask h hlt hvl (hLD.tsk.chg hXF (fun k hk => hold k (himm k hk).1) (fun k hk => hold k (hTg k hk))) hTg (fun k hk => ⟨(himm k hk).1, by have := (himm k hk).2.1; omega⟩) (fun k hk => (himm k hk).2.2) ?_ (hrw1.set 3 _) ?_ (by rw [hn, h.tkn]) ?_ hwF
  · intro k hk
    rcases hbl k hk with h1 | h1
    · exact Or.inl h1
    · right
      refine ⟨by omega, fun hbad => ?_, fun hbad => ?_⟩
      · have := hTg2 k hbad; omega
      · have := (himm k hbad).2.1; omega
  · have e : (M.tasks ++ [T]).flatMap Tsk.row = M.tasks.flatMap Tsk.row ++ T.row := by simp
    rw [e]
    exact hap.chg (Chg.setCell w1 ⟨M.b, 3, none⟩ _) (fun k hk => hbs k hk)
  · refine ((hown.below hb0).chg hc1 (fun k hk e => hd2.1 k (by simp [e]) hk)).chg (Chg.setCell w1 ⟨M.b, 3, none⟩ _) (fun k hk e => hd2.1 k (by simp [show k = M.b from e]) hk)

end Go.Proofs.YtlheloogmgmjnaaGreat

namespace Go.Proofs.YtlheloogmgmjnaaGreat
open Go.RowKit

theorem firstN_lt (p : Nat → Bool) (n : Nat) : firstN p n < n ∨ firstN p n = -1 := by
  unfold firstN
  split
  · rename_i k hk
    left
    have := List.mem_of_find?_eq_some hk
    have := List.mem_range.1 this
    omega
  · right; rfl

/-- Must a look at a key wait, of the first i transactions, from the greatest on? -/
def waitsIn (l : List Tsk) (key : Int) : Nat → Bool
  | 0 => false
  | i + 1 =>
    match l[i]? with
    | none => false
    | some t => if 0 ≤ t.wr key then (if t.ended = false then true else if t.crs.said.getD (t.wr key).toNat false then false else waitsIn l key i) else waitsIn l key i

theorem waitsIn_succ {l : List Tsk} {key : Int} {i : Nat} (hi : i < l.length) :
    waitsIn l key (i + 1) = if 0 ≤ l[i].wr key then (if l[i].ended = false then true else if l[i].crs.said.getD (l[i].wr key).toNat false then false else waitsIn l key i) else waitsIn l key i := by
  simp [waitsIn, hi]

def RM.waits (R : RM) (n : Nat) (x : Ins) : Bool :=
  if x.op = 6 ∨ x.op = 7 then (match R.tasks[n - 1]? with | none => false | some t => waitsIn R.tasks (t.tx.r.getD x.b.toNat 0) (n - 1)) else false

set_option maxHeartbeats 2000000 in
set_option maxRecDepth 100000 in
theorem rwaits_no (R : RM) (w : World) (n : Nat) (x : Ins) (hx : ¬ (x.op = 6 ∨ x.op = 7)) :
    Calls Tryz.prog 118 #[.pointer (some ⟨R.b, 0, none⟩), .int .i64 n, .agg #[.int .i64 x.op, .int .i64 x.a, .int .i64 x.b, .int .i64 x.c]] w fun e w' => e = .returned (.bool false) ∧ Below w.heap.size w w' := by
  obtain ⟨op, a, b, c⟩ := x
  simp only [not_or] at hx
  obtain ⟨h6, h7⟩ := hx
  have e6 : (op != 6) = true := by simp [h6]
  have e7 : (op != 7) = true := by simp [h7]
  go_enter Tryz.func118, Tryz.ntmps118
  go_wp2
  go_ret
  exact ⟨rfl, below_alloc1 _ _⟩

set_option maxHeartbeats 4000000 in
set_option maxRecDepth 100000 in
theorem rwaits_yes (R : RM) (w : World) (h : RefAt w R) (n : Nat) (hn1 : 1 ≤ n) (hn : n ≤ R.tasks.length) (x : Ins) (hx : x.op = 6 ∨ x.op = 7) (hb0 : 0 ≤ x.b) (hbl : x.b < (R.tasks[n - 1]'(by omega)).tx.r.length) :
    Calls Tryz.prog 118 #[.pointer (some ⟨R.b, 0, none⟩), .int .i64 n, .agg #[.int .i64 x.op, .int .i64 x.a, .int .i64 x.b, .int .i64 x.c]] w fun e w' => e = .returned (.bool (waitsIn R.tasks ((R.tasks[n - 1]'(by omega)).tx.r.getD x.b.toNat 0) (n - 1))) ∧ Below w.heap.size w w' := by
  obtain ⟨op, a, b, c⟩ := x
  simp only at hx hb0 hbl ⊢
  have hi : n - 1 < R.tasks.length := by omega
  have WB := hide (fun wx (hb : Below w.heap.size w wx) i hi key => rwrites_any R wx (h.below hb) i hi key)
  have H := hide (fun wx (hb : Below w.heap.size w wx) => h.below hb)
  have ht := h.txns
  obtain ⟨g, hg, hgl, hc⟩ := h.task hi
  have hT := h.tsk _ (List.getElem_mem hi)
  have c3 := h.row.cell' (i := 3) (v := .slice R.tkS.a R.tkS.n R.tkS.c) rfl
  rw [h.tkn, hg] at c3
  have e0 := hc 0 (.slice R.tasks[n - 1].h.r.a R.tasks[n - 1].h.r.n R.tasks[n - 1].h.r.c) rfl
  rw [hT.tx.rl] at e0
  obtain ⟨b1, o1, hr1, hcr, hbl1⟩ := hT.tx.ri.at (k := b.toNat) (by omega)
  have hck := hcr b.toNat (by omega)
  rw [hr1] at e0
  have hrl := (checkN_sound _ hT.chk).2.1
  have HG := hide hg
  have hrow := h.row.lt
  clear hcr hr1 hc hT h hg
  generalize (R.tasks[n - 1]'hi).tx.r.getD b.toNat 0 = key at *
  generalize (R.tasks[n - 1]'hi).tx.r.length = rl at *
  generalize (R.tasks[n - 1]'hi).h.r.c = rcc at *
  obtain ⟨bn, rfl⟩ : ∃ bn : Nat, b = bn := ⟨b.toNat, (Int.toNat_of_nonneg hb0).symm⟩
  simp only [Int.toNat_natCast] at hck
  obtain ⟨m, rfl⟩ : ∃ m, n = m + 1 := ⟨n - 1, by omega⟩
  simp only [Nat.add_sub_cancel, Nat.add_zero] at e0 hi ⊢
  have hg1 : (op != 6 && op != 7) = false := by rcases hx with h | h <;> simp [h]
  have B0 := hide (below_alloc1 w (.cells #[.int .i64 op, .int .i64 a, .int .i64 (bn : Int), .int .i64 c] 114))
  have hm' : (m : Int) < (R.tasks.length : Int) := by omega
  have hbl' : (bn : Int) < (rl : Int) := by omega
  rcases hx with hx | hx
  all_goals
    subst hx
    go_enter Tryz.func118, Tryz.ntmps118
    go_wp2
    go_quiet (fail)
    go_wp2
    have BW := hide (below_drewN B0.out nq)
    clear c3 e0 hck B0 hgl hrow
    generalize (w.alloc (.cells #[.int .i64 _, .int .i64 a, .int .i64 (bn : Int), .int .i64 c] 114)).drewN nq = W at *
    go_loopw [6, 8, 9] (fun _ i _ wr => ∃ j : Nat, j ≤ m ∧ i = .int .i64 ((j : Int) - 1) ∧ wr = W ∧ Hid (waitsIn R.tasks key m = waitsIn R.tasks key j)) (fun _ i _ _ => (intOf i + 1).toNat)
    case atStart => exact ⟨m, Nat.le_refl _, by go_num, rfl, hide rfl⟩
    case round =>
      obtain ⟨j, hj, rfl, rfl, HW⟩ := hrel
      cases j with
      | zero =>
        simp only [Int.natCast_zero, Int.zero_sub]
        go_wp2
        go_ret
        exact ⟨by rw [HW.out]; rfl, BW.out⟩
      | succ j =>
        rw [show (((j + 1 : Nat) : Int) - 1) = (j : Int) by omega]
        have hjl : j < R.tasks.length := by omega
        have HS := hide (HW.out.trans (waitsIn_succ hjl))
        obtain ⟨g2, hg2, hgl2, hc2⟩ := (H.out wr BW.out).task hjl
        obtain rfl : g2 = g := by rw [HG.out] at hg2; simpa using hg2.symm
        have hT := (H.out wr BW.out).tsk _ (List.getElem_mem hjl)
        have c3 := (H.out wr BW.out).row.cell' (i := 3) (v := .slice R.tkS.a R.tkS.n R.tkS.c) rfl
        rw [(H.out wr BW.out).tkn, HG.out] at c3
        have e7 := hc2 7 (.slice R.tasks[j].saidS.a R.tasks[j].saidS.n R.tasks[j].saidS.c) rfl
        have e8 := hc2 8 (.bool R.tasks[j].ended) rfl
        rw [hT.saidn, hT.saidl] at e7
        have WR := hide (WB.out wr BW.out j hjl key)
        have hsl := hT.saidl
        have HSd := hide hT.said
        have hw6 := (checkN_sound _ hT.chk).2.2.1
        have hk1 := firstN_ge (fun k => R.tasks[j].tx.w.getD k 0 == key && !R.tasks[j].gone.getD k false) R.tasks[j].tx.w.length
        have hk2 := firstN_lt (fun k => R.tasks[j].tx.w.getD k 0 == key && !R.tasks[j].gone.getD k false) R.tasks[j].tx.w.length
        change -1 ≤ R.tasks[j].wr key at hk1
        change R.tasks[j].wr key < _ ∨ R.tasks[j].wr key = -1 at hk2
        clear hc2 hT hg2 HW
        generalize R.tasks[j] = T at *
        generalize T.wr key = k at *
        by_cases h0 : 0 ≤ k
        · obtain ⟨kn, rfl⟩ : ∃ kn : Nat, k = kn := ⟨k.toNat, (Int.toNat_of_nonneg h0).symm⟩
          have hkn : kn < T.tx.w.length := by omega
          have d0 : decide ((0 : Int) ≤ (kn : Int)) = true := by simp
          simp only [Int.toNat_natCast] at HS
          have A1 : Hid (T.ended = false → waitsIn R.tasks key m = true) := hide (fun h => by rw [HS.out]; simp [h])
          have A2 : Hid (T.ended = true → T.crs.said.getD kn false = true → waitsIn R.tasks key m = false) := hide (fun h h2 => by rw [HS.out]; simp only [h, h2]; simp)
          have A3 : Hid (T.ended = true → T.crs.said.getD kn false = false → waitsIn R.tasks key m = waitsIn R.tasks key j) := hide (fun h h2 => by rw [HS.out]; simp only [h, h2]; simp)
          clear HS
          obtain ⟨b2, o2, hb2, hcb, _⟩ := HSd.out.at (k := kn) (by omega)
          have hbk := hcb kn (by omega)
          rw [hb2] at e7
          generalize T.crs.said.getD kn false = q at *
          generalize T.ended = en at *
          have hkn' : (kn : Int) < (T.tx.w.length : Int) := by omega
          have hjl' : (j : Int) < (R.tasks.length : Int) := by omega
          clear hcb hb2 HSd hk1 hk2 hsl
          cases en
          · go_wp2_with (go_at_call 117; refine WR.out.mono ?_; rintro e w' ⟨rfl, rfl⟩)
            go_ret
            exact ⟨ret_bool (A1.out (by trivial)).symm, BW.out⟩
          · cases q
            · go_wp2_with (go_at_call 117; refine WR.out.mono ?_; rintro e w' ⟨rfl, rfl⟩)
              go_roundw
              case rel => (repeat apply Exists.intro); refine ⟨⟨j, by omega, ?_, by first | rfl | trivial, hide (A3.out (by trivial) (by trivial))⟩, rfl⟩; go_num
              case measure => simp [intOf]
            · go_wp2_with (go_at_call 117; refine WR.out.mono ?_; rintro e w' ⟨rfl, rfl⟩)
              go_ret
              exact ⟨ret_bool (A2.out (by trivial) (by trivial)).symm, BW.out⟩
        · have hkm : k = -1 := by omega
          subst hkm
          clear e7 e8 HSd hk1 hk2
          go_wp2_with (go_at_call 117; refine WR.out.mono ?_; rintro e w' ⟨rfl, rfl⟩)
          have A4 := hide (HS.out.trans (by simp : (if (0 : Int) ≤ -1 then (if T.ended = false then true else if T.crs.said.getD (-1 : Int).toNat false then false else waitsIn R.tasks key j) else waitsIn R.tasks key j) = waitsIn R.tasks key j))
          clear HS
          go_roundw
          case rel => (repeat apply Exists.intro); refine ⟨⟨j, by omega, ?_, by first | rfl | trivial, A4⟩, rfl⟩; go_num
          case measure => simp [intOf]

end Go.Proofs.YtlheloogmgmjnaaGreat

namespace Go.Proofs.YtlheloogmgmjnaaGreat
open Go.RowKit

/-- What Result answers. -/
def RM.result (R : RM) (n : Int) : Bool × Int × Int :=
  if 1 ≤ n ∧ n ≤ R.tasks.length then (match R.tasks[n.toNat - 1]? with | none => (false, 0, 8) | some t => if t.ended then (t.crs.ab, t.crs.out, 0) else (false, 0, 9)) else (false, 0, 8)

set_option maxHeartbeats 2000000 in
set_option maxRecDepth 100000 in
theorem rResult_any (R : RM) (w : World) (h : RefAt w R) (n : Int) :
    Calls Tryz.prog 82 #[.pointer (some ⟨R.b, 0, none⟩), .int .i64 n] w fun e w' => e = .returned (.tuple #[.agg #[.bool (R.result n).1, .int .i64 (R.result n).2.1], .int .i64 (R.result n).2.2]) ∧ Below w.heap.size w w' := by
  have c3 := h.row.cell' (i := 3) (v := .slice R.tkS.a R.tkS.n R.tkS.c) rfl
  rw [h.tkn] at c3
  have ht := h.txns
  have hbl := h.row.lt
  by_cases hn : 1 ≤ n ∧ n ≤ R.tasks.length
  · obtain ⟨m, rfl⟩ : ∃ m : Nat, n = (m : Int) + 1 := ⟨(n - 1).toNat, by omega⟩
    have hm : m < R.tasks.length := by omega
    obtain ⟨g, hg, hgl, hc⟩ := h.task hm
    rw [hg] at c3
    have e8 := hc 8 (.bool R.tasks[m].ended) rfl
    have e4 := hc 4 (.bool R.tasks[m].crs.ab) rfl
    have e5 := hc 5 (.int .i64 R.tasks[m].crs.out) rfl
    have hR : R.result ((m : Int) + 1) = if R.tasks[m].ended then (R.tasks[m].crs.ab, R.tasks[m].crs.out, 0) else (false, 0, 9) := by
      unfold RM.result
      rw [if_pos hn]
      have : ((m : Int) + 1).toNat - 1 = m := by omega
      rw [this]
      simp [hm]
    rw [hR]
    generalize R.tasks[m] = T at *
    have d1 : decide ((m : Int) + 1 < 1) = false := by simp; omega
    have d2 : decide ((R.tasks.length : Int) < (m : Int) + 1) = false := by simp; omega
    have hm' : (m : Int) < (R.tasks.length : Int) := by omega
    clear h hc hg hR hn
    generalize T.ended = en at *
    generalize T.crs.ab = ab at *
    generalize T.crs.out = out at *
    have hne : ¬ g = w.heap.size := by omega
    have hne2 : ¬ R.b = w.heap.size := by omega
    cases en
    · go_enter Tryz.func82, Tryz.ntmps82
      go_wp2
      exact bodyPost_ret (v := .tuple #[.agg #[.bool false, .int .i64 0], .int .i64 9]) (by simp [results, Tryz.results82, go_sem]) rfl ⟨rfl, below_alloc1 _ _⟩
    · go_enter Tryz.func82, Tryz.ntmps82
      go_wp2
      exact bodyPost_ret (v := .tuple #[.agg #[.bool ab, .int .i64 out], .int .i64 0]) (by simp [results, Tryz.results82, go_sem]) rfl ⟨rfl, below_alloc1 _ _⟩
  · have hR : R.result n = (false, 0, 8) := by unfold RM.result; rw [if_neg hn]
    rw [hR]
    clear h hR
    by_cases h1 : n < 1
    · go_enter Tryz.func82, Tryz.ntmps82
      go_wp2
      exact bodyPost_ret (v := .tuple #[.agg #[.bool false, .int .i64 0], .int .i64 8]) (by simp [results, Tryz.results82, go_sem]) rfl ⟨rfl, below_alloc1 _ _⟩
    · have h2 : (R.tasks.length : Int) < n := by omega
      have d1 : decide (n < 1) = false := by simp; omega
      go_enter Tryz.func82, Tryz.ntmps82
      go_wp2
      exact bodyPost_ret (v := .tuple #[.agg #[.bool false, .int .i64 0], .int .i64 8]) (by simp [results, Tryz.results82, go_sem]) rfl ⟨rfl, below_alloc1 _ _⟩

end Go.Proofs.YtlheloogmgmjnaaGreat

namespace Go.Proofs.YtlheloogmgmjnaaGreat
open Go.RowKit

def RM.withDealt (R : RM) (i d : Nat) : RM := { R with dealt := R.dealt.set i d }
def RM.withHand (R : RM) (i n : Nat) : RM := { R with hand := R.hand.set i n }
def RM.withDid (R : RM) (i n : Nat) : RM := { R with dids := R.dids.set i n }
def RM.withTaken (R : RM) (n : Nat) : RM := { R with taken := n }

theorem nats_set (l : List Nat) (i d : Nat) : (ints (nats l)).set i (.int .i64 d) = ints (nats (l.set i d)) := by
  simp [ints, nats, List.map_set]

theorem mem_set_le {l : List Nat} {i d n : Nat} (h : ∀ x ∈ l, x ≤ n) (hd : d ≤ n) : ∀ x ∈ l.set i d, x ≤ n := by
  intro x hx
  rcases List.mem_or_eq_of_mem_set hx with h1 | h1
  · exact h x h1
  · omega

/-- The blocks that are written are apart from one another. -/
theorem RefAt.parts_of {w : World} {R : RM} (h : RefAt w R) :
    (∀ k ∈ R.deS.blk, k ≠ R.b ∧ k ∉ R.tkS.blk ∧ k ∉ R.hvS.blk ∧ k ∉ R.enS.blk ∧ k ∉ R.haS.blk ∧ k ∉ R.diS.blk ∧ ∀ t ∈ R.tasks, k ∉ t.goneS.blk) ∧
    (∀ k ∈ R.haS.blk, k ≠ R.b ∧ k ∉ R.tkS.blk ∧ k ∉ R.hvS.blk ∧ k ∉ R.enS.blk ∧ k ∉ R.deS.blk ∧ k ∉ R.diS.blk ∧ ∀ t ∈ R.tasks, k ∉ t.goneS.blk) ∧
    (∀ k ∈ R.diS.blk, k ≠ R.b ∧ k ∉ R.tkS.blk ∧ k ∉ R.hvS.blk ∧ k ∉ R.enS.blk ∧ k ∉ R.deS.blk ∧ k ∉ R.haS.blk ∧ ∀ t ∈ R.tasks, k ∉ t.goneS.blk) ∧
    (∀ k ∈ R.tkS.blk, k ≠ R.b ∧ k ∉ R.hvS.blk ∧ k ∉ R.enS.blk ∧ k ∉ R.deS.blk ∧ k ∉ R.haS.blk ∧ k ∉ R.diS.blk ∧ ∀ t ∈ R.tasks, k ∉ t.goneS.blk) := by
  have hnd := h.nodup
  have e1 : R.mut = ([R.b] ++ R.tkS.blk ++ R.hvS.blk ++ R.enS.blk) ++ (R.deS.blk ++ (R.haS.blk ++ (R.diS.blk ++ R.tasks.flatMap fun t => t.goneS.blk))) := by simp [RM.mut]
  have e2 : R.mut = ([R.b] ++ R.tkS.blk ++ R.hvS.blk ++ R.enS.blk ++ R.deS.blk) ++ (R.haS.blk ++ (R.diS.blk ++ R.tasks.flatMap fun t => t.goneS.blk)) := by simp [RM.mut]
  have e3 : R.mut = ([R.b] ++ R.tkS.blk ++ R.hvS.blk ++ R.enS.blk ++ R.deS.blk ++ R.haS.blk) ++ (R.diS.blk ++ R.tasks.flatMap fun t => t.goneS.blk) := by simp [RM.mut]
  have e4 : R.mut = [R.b] ++ (R.tkS.blk ++ (R.hvS.blk ++ (R.enS.blk ++ (R.deS.blk ++ (R.haS.blk ++ (R.diS.blk ++ R.tasks.flatMap fun t => t.goneS.blk)))))) := by simp [RM.mut]
  have d1 := nodup_disj (by rw [← e1]; exact hnd)
  have d2 := nodup_disj (by rw [← e2]; exact hnd)
  have d3 := nodup_disj (by rw [← e3]; exact hnd)
  have d4 := nodup_disj (by rw [← e4]; exact hnd)
  have gm : ∀ {k : Nat} {t : Tsk}, t ∈ R.tasks → k ∈ t.goneS.blk → k ∈ R.tasks.flatMap fun t => t.goneS.blk := fun ht hk => List.mem_flatMap.2 ⟨_, ht, hk⟩
  refine ⟨fun k hk => ⟨?_, ?_, ?_, ?_, ?_, ?_, ?_⟩, fun k hk => ⟨?_, ?_, ?_, ?_, ?_, ?_, ?_⟩, fun k hk => ⟨?_, ?_, ?_, ?_, ?_, ?_, ?_⟩, fun k hk => ⟨?_, ?_, ?_, ?_, ?_, ?_, ?_⟩⟩
  · rintro rfl; exact d1.1 _ (by simp) hk
  · intro h1; exact d1.1 _ (by simp [h1]) hk
  · intro h1; exact d1.1 _ (by simp [h1]) hk
  · intro h1; exact d1.1 _ (by simp [h1]) hk
  · intro h1; exact d1.2 _ (by simp [h1]) hk
  · intro h1; exact d1.2 _ (by simp [h1]) hk
  · intro t ht h1; exact d1.2 _ (by simp only [List.mem_append]; exact Or.inr (Or.inr (gm ht h1))) hk
  · rintro rfl; exact d2.1 _ (by simp) hk
  · intro h1; exact d2.1 _ (by simp [h1]) hk
  · intro h1; exact d2.1 _ (by simp [h1]) hk
  · intro h1; exact d2.1 _ (by simp [h1]) hk
  · intro h1; exact d2.1 _ (by simp [h1]) hk
  · intro h1; exact d2.2 _ (by simp [h1]) hk
  · intro t ht h1; exact d2.2 _ (by simp only [List.mem_append]; exact Or.inr (gm ht h1)) hk
  · rintro rfl; exact d3.1 _ (by simp) hk
  · intro h1; exact d3.1 _ (by simp [h1]) hk
  · intro h1; exact d3.1 _ (by simp [h1]) hk
  · intro h1; exact d3.1 _ (by simp [h1]) hk
  · intro h1; exact d3.1 _ (by simp [h1]) hk
  · intro h1; exact d3.1 _ (by simp [h1]) hk
  · intro t ht h1; exact d3.2 _ (gm ht h1) hk
  · rintro rfl; exact d4.1 _ (by simp) hk
  · intro h1; exact d4.2 _ (by simp [h1]) hk
  · intro h1; exact d4.2 _ (by simp [h1]) hk
  · intro h1; exact d4.2 _ (by simp [h1]) hk
  · intro h1; exact d4.2 _ (by simp [h1]) hk
  · intro h1; exact d4.2 _ (by simp [h1]) hk
  · intro t ht h1; exact d4.2 _ (by simp only [List.mem_append]; exact Or.inr (Or.inr (Or.inr (Or.inr (Or.inr (gm ht h1)))))) hk

theorem RefAt.imm_ne {w : World} {R : RM} (h : RefAt w R) {g : Nat} (hg : g ∈ R.mut) : ∀ t ∈ R.tasks, ∀ k ∈ t.imm, ¬ k = g :=
  fun t ht k hk e => h.apart k (by simp only [RM.imm, List.mem_flatMap]; exact ⟨t, ht, hk⟩) (by rw [e]; exact hg)

theorem refAt_withDealt {w : World} {R : RM} (h : RefAt w R) {g : Nat} (hg : R.deS.a = some ⟨g, 0, none⟩) (i d : Nat) (hd : d ≤ R.tasks.length) :
    RefAt (w.setCell ⟨g, i, none⟩ (.int .i64 d)) (R.withDealt i d) ∧ Chg w (w.setCell ⟨g, i, none⟩ (.int .i64 d)) (fun k => k ∈ R.mut) := by
  have hc : Chg w (w.setCell ⟨g, i, none⟩ (.int .i64 d)) (· = g) := Chg.setCell w ⟨g, i, none⟩ _
  have hm : g ∈ R.deS.blk := by simp [Sl.blk, hg]
  obtain ⟨n1, n2, n3, n4, n5, n6, n7⟩ := h.parts_of.1 g hm
  have hmm : g ∈ R.mut := by simp [RM.mut, hm]
  refine ⟨{ h with
    row := h.row.chg hc (fun e => n1 e.symm)
    tk := h.tk.chg hc (fun k hk e => n2 (e ▸ hk))
    hv := h.hv.chg hc (fun k hk e => n3 (e ▸ hk))
    en := h.en.chg hc (fun k hk e => n4 (e ▸ hk))
    de := by have := h.de.set hg i (.int .i64 d); rw [nats_set] at this; exact this
    den := by simp [RM.withDealt, h.den]
    del := by simp [RM.withDealt, h.del]
    ha := h.ha.chg hc (fun k hk e => n5 (e ▸ hk))
    di := h.di.chg hc (fun k hk e => n6 (e ▸ hk))
    tsk := fun t ht => (h.tsk t ht).chg hc (h.imm_ne hmm t ht) (fun k hk e => n7 t ht (e ▸ hk))
    immlt := fun k hk => Nat.lt_of_lt_of_le (h.immlt k hk) hc.size
    dealtle := mem_set_le h.dealtle hd }, hc.mono (fun k _ hk => by rw [hk]; exact hmm)⟩

theorem refAt_withHand {w : World} {R : RM} (h : RefAt w R) {g : Nat} (hg : R.haS.a = some ⟨g, 0, none⟩) (i d : Nat) :
    RefAt (w.setCell ⟨g, i, none⟩ (.int .i64 d)) (R.withHand i d) ∧ Chg w (w.setCell ⟨g, i, none⟩ (.int .i64 d)) (fun k => k ∈ R.mut) := by
  have hc : Chg w (w.setCell ⟨g, i, none⟩ (.int .i64 d)) (· = g) := Chg.setCell w ⟨g, i, none⟩ _
  have hm : g ∈ R.haS.blk := by simp [Sl.blk, hg]
  obtain ⟨n1, n2, n3, n4, n5, n6, n7⟩ := h.parts_of.2.1 g hm
  have hmm : g ∈ R.mut := by simp [RM.mut, hm]
  refine ⟨{ h with
    row := h.row.chg hc (fun e => n1 e.symm)
    tk := h.tk.chg hc (fun k hk e => n2 (e ▸ hk))
    hv := h.hv.chg hc (fun k hk e => n3 (e ▸ hk))
    en := h.en.chg hc (fun k hk e => n4 (e ▸ hk))
    de := h.de.chg hc (fun k hk e => n5 (e ▸ hk))
    ha := by have := h.ha.set hg i (.int .i64 d); rw [nats_set] at this; exact this
    han := by simp [RM.withHand, h.han]
    hal := by simp [RM.withHand, h.hal]
    di := h.di.chg hc (fun k hk e => n6 (e ▸ hk))
    tsk := fun t ht => (h.tsk t ht).chg hc (h.imm_ne hmm t ht) (fun k hk e => n7 t ht (e ▸ hk))
    immlt := fun k hk => Nat.lt_of_lt_of_le (h.immlt k hk) hc.size }, hc.mono (fun k _ hk => by rw [hk]; exact hmm)⟩

theorem refAt_withDid {w : World} {R : RM} (h : RefAt w R) {g : Nat} (hg : R.diS.a = some ⟨g, 0, none⟩) (i d : Nat) :
    RefAt (w.setCell ⟨g, i, none⟩ (.int .i64 d)) (R.withDid i d) ∧ Chg w (w.setCell ⟨g, i, none⟩ (.int .i64 d)) (fun k => k ∈ R.mut) := by
  have hc : Chg w (w.setCell ⟨g, i, none⟩ (.int .i64 d)) (· = g) := Chg.setCell w ⟨g, i, none⟩ _
  have hm : g ∈ R.diS.blk := by simp [Sl.blk, hg]
  obtain ⟨n1, n2, n3, n4, n5, n6, n7⟩ := h.parts_of.2.2.1 g hm
  have hmm : g ∈ R.mut := by simp [RM.mut, hm]
  refine ⟨{ h with
    row := h.row.chg hc (fun e => n1 e.symm)
    tk := h.tk.chg hc (fun k hk e => n2 (e ▸ hk))
    hv := h.hv.chg hc (fun k hk e => n3 (e ▸ hk))
    en := h.en.chg hc (fun k hk e => n4 (e ▸ hk))
    de := h.de.chg hc (fun k hk e => n5 (e ▸ hk))
    ha := h.ha.chg hc (fun k hk e => n6 (e ▸ hk))
    di := by have := h.di.set hg i (.int .i64 d); rw [nats_set] at this; exact this
    din := by simp [RM.withDid, h.din]
    dil := by simp [RM.withDid, h.dil]
    tsk := fun t ht => (h.tsk t ht).chg hc (h.imm_ne hmm t ht) (fun k hk e => n7 t ht (e ▸ hk))
    immlt := fun k hk => Nat.lt_of_lt_of_le (h.immlt k hk) hc.size }, hc.mono (fun k _ hk => by rw [hk]; exact hmm)⟩

theorem refAt_withTaken {w : World} {R : RM} (h : RefAt w R) (n : Nat) :
    RefAt (w.setCell ⟨R.b, 9, none⟩ (.int .i64 n)) (R.withTaken n) ∧ Chg w (w.setCell ⟨R.b, 9, none⟩ (.int .i64 n)) (fun k => k ∈ R.mut) := by
  have hc : Chg w (w.setCell ⟨R.b, 9, none⟩ (.int .i64 n)) (· = R.b) := Chg.setCell w ⟨R.b, 9, none⟩ _
  have hmm : R.b ∈ R.mut := by simp [RM.mut]
  have hba := h.b_apart
  refine ⟨{ h with
    row := h.row.set 9 (.int .i64 n)
    tk := h.tk.chg hc (fun k hk e => hba k (by simp [hk]) e)
    hv := h.hv.chg hc (fun k hk e => hba k (by simp [hk]) e)
    en := h.en.chg hc (fun k hk e => hba k (by simp [hk]) e)
    de := h.de.chg hc (fun k hk e => hba k (by simp [hk]) e)
    ha := h.ha.chg hc (fun k hk e => hba k (by simp [hk]) e)
    di := h.di.chg hc (fun k hk e => hba k (by simp [hk]) e)
    tsk := fun t ht => (h.tsk t ht).chg hc (h.imm_ne hmm t ht) (fun k hk e => hba k (by simp only [List.mem_append, List.mem_flatMap]; exact Or.inr (Or.inr (Or.inr (Or.inr (Or.inr (Or.inr ⟨t, ht, hk⟩)))))) e)
    immlt := fun k hk => Nat.lt_of_lt_of_le (h.immlt k hk) hc.size }, hc.mono (fun k _ hk => by rw [hk]; exact hmm)⟩

end Go.Proofs.YtlheloogmgmjnaaGreat

namespace Go.Proofs.YtlheloogmgmjnaaGreat
open Go.RowKit

def Tsk.end (t : Tsk) : Tsk := { t with ended := true }
def RM.withEnded (R : RM) (m : Nat) : RM := { R with tasks := R.tasks.modify m Tsk.end }

theorem flatMap_modify {α β : Type} (f : α → α) (h : α → List β) (hf : ∀ x, h (f x) = h x) : ∀ (l : List α) (m : Nat), (l.modify m f).flatMap h = l.flatMap h
  | [], m => by simp
  | x :: r, 0 => by simp [hf]
  | x :: r, m + 1 => by simp [flatMap_modify f h hf r m]

theorem flat10_end : ∀ (l : List Tsk) (m : Nat), m < l.length → (l.flatMap Tsk.row).set (m * 10 + 8) (.bool true) = (l.modify m Tsk.end).flatMap Tsk.row
  | [], m, h => by simp at h
  | x :: r, 0, _ => by simp [Tsk.row, Tsk.end]
  | x :: r, m + 1, h => by
    have := flat10_end r m (by simpa using h)
    simp only [List.flatMap_cons, List.modify_succ_cons]
    rw [← this, show (m + 1) * 10 + 8 = (m * 10 + 8) + 10 by omega, List.set_append_right _ _ (by simp [Tsk.row])]
    simp [Tsk.row]

theorem mem_modify {α : Type} (f : α → α) : ∀ (l : List α) (m : Nat) (x : α), x ∈ l.modify m f → x ∈ l ∨ ∃ y ∈ l, x = f y
  | [], m, x, h => by simp at h
  | y :: r, 0, x, h => by
    simp at h
    rcases h with h | h
    · exact Or.inr ⟨y, by simp, h⟩
    · exact Or.inl (by simp [h])
  | y :: r, m + 1, x, h => by
    simp only [List.modify_succ_cons, List.mem_cons] at h
    rcases h with h | h
    · exact Or.inl (by simp [h])
    · rcases mem_modify f r m x h with h1 | ⟨z, hz, h1⟩
      · exact Or.inl (by simp [h1])
      · exact Or.inr ⟨z, by simp [hz], h1⟩

theorem refAt_withEnded {w : World} {R : RM} (h : RefAt w R) {g : Nat} (hg : R.tkS.a = some ⟨g, 0, none⟩) {m : Nat} (hm : m < R.tasks.length) :
    RefAt (w.setCell ⟨g, m * 10 + 8, none⟩ (.bool true)) (R.withEnded m) ∧ Chg w (w.setCell ⟨g, m * 10 + 8, none⟩ (.bool true)) (fun k => k ∈ R.mut) := by
  have hc : Chg w (w.setCell ⟨g, m * 10 + 8, none⟩ (.bool true)) (· = g) := Chg.setCell w ⟨g, m * 10 + 8, none⟩ _
  have hmk : g ∈ R.tkS.blk := by simp [Sl.blk, hg]
  obtain ⟨n1, n3, n4, n5, n6, n7, n8⟩ := h.parts_of.2.2.2 g hmk
  have hmm : g ∈ R.mut := by simp [RM.mut, hmk]
  have em : (R.withEnded m).mut = R.mut := by
    unfold RM.mut RM.withEnded
    simp only
    rw [flatMap_modify Tsk.end (fun t => t.goneS.blk) (fun _ => rfl)]
  have ei : (R.withEnded m).imm = R.imm := by
    unfold RM.imm RM.withEnded
    simp only
    rw [flatMap_modify Tsk.end Tsk.imm (fun _ => rfl)]
  refine ⟨{ h with
    row := h.row.chg hc (fun e => n1 e.symm)
    tk := by have := h.tk.set hg (m * 10 + 8) (.bool true); rw [flat10_end _ _ hm] at this; exact this
    tkn := by simp [RM.withEnded, h.tkn]
    hv := h.hv.chg hc (fun k hk e => n3 (e ▸ hk))
    en := h.en.chg hc (fun k hk e => n4 (e ▸ hk))
    de := h.de.chg hc (fun k hk e => n5 (e ▸ hk))
    ha := h.ha.chg hc (fun k hk e => n6 (e ▸ hk))
    di := h.di.chg hc (fun k hk e => n7 (e ▸ hk))
    tsk := fun t ht => by
      rcases mem_modify Tsk.end R.tasks m t ht with h1 | ⟨y, hy, rfl⟩
      · exact (h.tsk t h1).chg hc (h.imm_ne hmm t h1) (fun k hk e => n8 t h1 (e ▸ hk))
      · have := (h.tsk y hy).chg hc (h.imm_ne hmm y hy) (fun k hk e => n8 y hy (e ▸ hk))
        exact ⟨this.tx, this.did, this.didn, this.ws, this.wsn, this.wsl, this.said, this.saidn, this.saidl, this.gone, this.gonen, this.gonel, this.chk⟩
    nodup := by rw [em]; exact h.nodup
    apart := by rw [em, ei]; exact h.apart
    immlt := by rw [ei]; exact fun k hk => Nat.lt_of_lt_of_le (h.immlt k hk) hc.size
    txns := by simp [RM.withEnded]; exact h.txns
    ends1 := by have := h.ends1; simp [RM.withEnded]; exact this
    endsle := fun e he => by have := h.endsle e he; simp [RM.withEnded]; exact this
    dealtle := fun e he => by have := h.dealtle e he; simp [RM.withEnded]; exact this }, hc.mono (fun k _ hk => by rw [hk]; exact hmm)⟩

theorem foot_withEnded (R : RM) (m : Nat) : (R.withEnded m).foot = R.foot := by
  unfold RM.foot RM.mut RM.imm RM.withEnded
  simp only
  rw [flatMap_modify Tsk.end (fun t => t.goneS.blk) (fun _ => rfl), flatMap_modify Tsk.end Tsk.imm (fun _ => rfl)]

set_option maxHeartbeats 2000000 in
set_option maxRecDepth 100000 in
theorem rStep_maker (R : RM) (w : World) (h : RefAt w R) (i : Nat) (hi : i < R.parts) :
    Calls Tryz.prog 45 #[.pointer (some ⟨R.b, 0, none⟩), .int .i64 i] w fun e w' => ∃ R', e = .returned (.bool (decide (R.dealt.getD i 0 < R.closed))) ∧ RefAt w' R' ∧ Chg w w' (fun k => k ∈ R.mut) ∧ R'.foot = R.foot ∧ R'.b = R.b ∧
      (R.dealt.getD i 0 < R.closed → R' = R.withDealt i (R.dealt.getD i 0 + 1)) ∧ (¬ R.dealt.getD i 0 < R.closed → R' = R) := by
  have c0 := h.row.cell' (i := 0) (v := .int .i64 R.parts) rfl
  have c1 := h.row.cell' (i := 1) (v := .int .i64 R.doers) rfl
  have c6 := h.row.cell' (i := 6) (v := .slice R.deS.a R.deS.n R.deS.c) rfl
  have p8 := h.parts8
  have d6 := h.doers6
  have hil : i < R.dealt.length := by rw [h.del]; exact hi
  rw [h.den, h.del] at c6
  obtain ⟨g, hg, hck⟩ := h.de.cell (i := i) (v := .int .i64 (R.dealt.getD i 0 : Nat)) (by simp [ints, nats, List.getD, hil])
  have hfz := h.de.frozen hg i
  rw [hg] at c6
  have HC := hide (fun k n => rclosed_any R ((w.drewN k).drewN n) ((h.drewN k).drewN n))
  have hcl := h.closed_le
  have ht := h.txns
  have HR := hide h
  have HG := hide hg
  clear h hg hil
  have e1 : ¬ ((i : Int) < 0) := by omega
  have f1 : decide ((i : Int) < 0) = false := by simp
  have f2 : decide (((R.parts : Int) + R.doers) < (i : Int)) = false := by simp; omega
  have f3 : (i : Int) < (R.parts : Int) := by omega
  generalize hD : R.dealt.getD i 0 = D at *
  by_cases hlt : D < R.closed
  · have HL := hide hlt
    have hDl : D + 1 ≤ R.tasks.length := by omega
    generalize R.closed = C at *
    have hlt' : ¬ ((C : Int) ≤ (D : Int)) := by omega
    go_enter Tryz.func45, Tryz.ntmps45
    go_wp2
    go_quiet (fail)
    have HW := hide (HR.out.drewN nq)
    have CW := hide (Chg.drewN w nq (fun k => k ∈ R.mut))
    have k0 : (w.drewN nq).cell? ⟨R.b, 0, none⟩ = some (.int .i64 R.parts) := c0
    have k6 : (w.drewN nq).cell? ⟨R.b, 6, none⟩ = some (.slice (some ⟨g, 0, none⟩) R.parts R.deS.c) := c6
    have kk : (w.drewN nq).cell? ⟨g, i, none⟩ = some (.int .i64 D) := hck
    have kf : (w.drewN nq).frozen? ⟨g, i, none⟩ = false := hfz
    have HQ := hide (HC.out nq)
    clear c0 c1 c6 hck hfz HC
    generalize w.drewN nq = W at *
    go_wp2
    go_quiet ((go_at_call 74; exact Calls.quiet_of (HQ.out _)))
    go_wp2
    obtain ⟨q1, q2⟩ := refAt_withDealt (HW.out.drewN nq) HG.out i (D + 1) hDl
    rw [show ((D + 1 : Nat) : Int) = (D : Int) + 1 by omega] at q1 q2
    have Q1 := hide q1
    have Q2 := hide (CW.out.trans ((Chg.drewN W nq _).trans q2))
    clear q1 q2
    go_ret
    exact ⟨_, by simp [HL.out], Q1.out, Q2.out, rfl, rfl, fun _ => rfl, fun h => absurd HL.out h⟩
  · have HL := hide hlt
    generalize R.closed = C at *
    have hlt' : (C : Int) ≤ (D : Int) := by omega
    go_enter Tryz.func45, Tryz.ntmps45
    go_wp2
    go_quiet (fail)
    have HW := hide (HR.out.drewN nq)
    have CW := hide (Chg.drewN w nq (fun k => k ∈ R.mut))
    have k0 : (w.drewN nq).cell? ⟨R.b, 0, none⟩ = some (.int .i64 R.parts) := c0
    have k6 : (w.drewN nq).cell? ⟨R.b, 6, none⟩ = some (.slice (some ⟨g, 0, none⟩) R.parts R.deS.c) := c6
    have kk : (w.drewN nq).cell? ⟨g, i, none⟩ = some (.int .i64 D) := hck
    have kf : (w.drewN nq).frozen? ⟨g, i, none⟩ = false := hfz
    have HQ := hide (HC.out nq)
    clear c0 c1 c6 hck hfz HC
    generalize w.drewN nq = W at *
    go_wp2
    go_quiet ((go_at_call 74; exact Calls.quiet_of (HQ.out _)))
    go_wp2
    go_ret
    exact ⟨R, by simp [HL.out], HW.out.drewN nq, CW.out.trans (Chg.drewN W nq _), rfl, rfl, fun h => absurd h HL.out, fun _ => rfl⟩

end Go.Proofs.YtlheloogmgmjnaaGreat

namespace Go.Proofs.YtlheloogmgmjnaaGreat
open Go.RowKit

theorem RefAt.handCell {w : World} {R : RM} (h : RefAt w R) {d : Nat} (hd : d < R.doers) : ∃ g, R.haS.a = some ⟨g, 0, none⟩ ∧ w.cell? ⟨g, d, none⟩ = some (.int .i64 (R.hand.getD d 0 : Nat)) := by
  have hl : d < R.hand.length := by rw [h.hal]; exact hd
  exact h.ha.cell (i := d) (by simp [ints, nats, List.getD, hl])
theorem RefAt.didCell {w : World} {R : RM} (h : RefAt w R) {d : Nat} (hd : d < R.doers) : ∃ g, R.diS.a = some ⟨g, 0, none⟩ ∧ w.cell? ⟨g, d, none⟩ = some (.int .i64 (R.dids.getD d 0 : Nat)) := by
  have hl : d < R.dids.length := by rw [h.dil]; exact hd
  exact h.di.cell (i := d) (by simp [ints, nats, List.getD, hl])
theorem RM.ready_le (R : RM) : R.ready ≤ R.ends.length := List.countP_le_length
theorem RefAt.endCell {w : World} {R : RM} (h : RefAt w R) {k : Nat} (hk : k < R.ends.length) : ∃ g, R.enS.a = some ⟨g, 0, none⟩ ∧ w.cell? ⟨g, k, none⟩ = some (.int .i64 (R.ends.getD k 0 : Nat)) :=
  h.en.cell (i := k) (by simp [ints, nats, List.getD, hk])

/-- Is there one to take? -/
def RM.canTake (R : RM) : Prop := R.ready ≠ 0 ∧ R.taken < R.ends.getD (R.ready - 1) 0

set_option maxHeartbeats 4000000 in
set_option maxRecDepth 100000 in
theorem rdoer_none (R : RM) (w : World) (h : RefAt w R) (d : Nat) (hd : d < R.doers) (h0 : R.hand.getD d 0 = 0) (hno : ¬ R.canTake) :
    Calls Tryz.prog 80 #[.pointer (some ⟨R.b, 0, none⟩), .int .i64 d] w fun e w' => e = .returned (.bool false) ∧ Below w.heap.size w w' := by
  obtain ⟨gh, hgh, ch⟩ := h.handCell hd
  have c7 := h.row.cell' (i := 7) (v := .slice R.haS.a R.haS.n R.haS.c) rfl
  have c9 := h.row.cell' (i := 9) (v := .int .i64 R.taken) rfl
  have c5 := h.row.cell' (i := 5) (v := .slice R.enS.a R.enS.n R.enS.c) rfl
  rw [h.han, h.hal, hgh] at c7
  rw [h.enn] at c5
  rw [h0] at ch
  have d6 := h.doers6
  have HRD := hide (rready_any R w h)
  have hrl := R.ready_le
  have ht := h.txns
  have ht1 := h.ends1
  have hd' : (d : Int) < (R.doers : Int) := by omega
  have HE := hide (fun k (hk : k < R.ends.length) => h.endCell hk)
  have hno' : R.ready = 0 ∨ R.ends.getD (R.ready - 1) 0 ≤ R.taken := by unfold RM.canTake at hno; omega
  clear h hgh h0 hno
  by_cases hr : R.ready = 0
  · rw [hr] at HRD
    go_enter Tryz.func80, Tryz.ntmps80
    go_wp2_with (go_at_call 75; refine HRD.out.mono ?_; rintro e w' ⟨rfl, n1, rfl⟩)
    go_quiet (fail)
    go_wp2
    go_ret
    exact ⟨rfl, below_drewN (below_drewN (Below.refl _ _) _) _⟩
  · obtain ⟨ge, hge, ce⟩ := HE.out (R.ready - 1) (by omega)
    rw [hge] at c5
    have hle : R.ends.getD (R.ready - 1) 0 ≤ R.taken := by omega
    obtain ⟨q, hq⟩ : ∃ q, R.ready = q + 1 := ⟨R.ready - 1, by omega⟩
    rw [hq] at HRD ce hle hrl
    simp only [Nat.add_sub_cancel] at ce hle
    generalize R.ends.getD q 0 = E at *
    have hle' : (E : Int) ≤ (R.taken : Int) := by omega
    have dq : decide (((q + 1 : Nat) : Int) = 0) = false := by simp; omega
    have dq2 : ((q : Int) + 1 == 0) = false := by rw [beq_eq_false_iff_ne]; omega
    have hql : (q : Int) < (R.ends.length : Int) := by omega
    have dle : decide ((E : Int) ≤ (R.taken : Int)) = true := by simp; omega
    clear hr hq hge HE hno'
    go_enter Tryz.func80, Tryz.ntmps80
    go_wp2_with (go_at_call 75; refine HRD.out.mono ?_; rintro e w' ⟨rfl, n1, rfl⟩)
    go_quiet (fail)
    go_wp2
    go_ret
    exact ⟨rfl, below_drewN (below_drewN (Below.refl _ _) _) _⟩

theorem mut_withEnded (R : RM) (m : Nat) : (R.withEnded m).mut = R.mut := by
  unfold RM.mut RM.withEnded
  simp only
  rw [flatMap_modify Tsk.end (fun t => t.goneS.blk) (fun _ => rfl)]

/-- A doer has taken the next one. -/
def RM.took (R : RM) (d : Nat) : RM := ((R.withTaken (R.taken + 1)).withHand d (R.taken + 1)).withDid d 0
/-- A doer's transaction has ended. -/
def RM.freed (R : RM) (d m : Nat) : RM := (R.withEnded m).withHand d 0

theorem foot_freed (R : RM) (d m : Nat) : (R.freed d m).foot = R.foot := foot_withEnded R m

theorem Chg.both {w w' w'' : World} {D : Nat → Prop} (h : Chg w w' D) (k : Chg w' w'' D) : Chg w w'' D := h.trans k

set_option maxHeartbeats 4000000 in
set_option maxRecDepth 100000 in
theorem rdoer_take (R : RM) (w : World) (h : RefAt w R) (d : Nat) (hd : d < R.doers) (h0 : R.hand.getD d 0 = 0) (hyes : R.canTake) (hlt : R.taken < R.tasks.length) :
    Calls Tryz.prog 80 #[.pointer (some ⟨R.b, 0, none⟩), .int .i64 d] w fun e w' => ∃ R', e = .returned (.bool true) ∧ RefAt w' R' ∧ Chg w w' (fun k => k ∈ R.mut) ∧ R'.foot = R.foot ∧ R'.b = R.b ∧
      ((R.tasks[R.taken]).crs.did.length = 0 → R' = (R.took d).freed d R.taken) ∧ (¬ (R.tasks[R.taken]).crs.did.length = 0 → R' = R.took d) := by
  obtain ⟨gh, hgh, ch⟩ := h.handCell hd
  have c7 := h.row.cell' (i := 7) (v := .slice R.haS.a R.haS.n R.haS.c) rfl
  have c9 := h.row.cell' (i := 9) (v := .int .i64 R.taken) rfl
  have cf9 := h.row.frozen 9
  have c5 := h.row.cell' (i := 5) (v := .slice R.enS.a R.enS.n R.enS.c) rfl
  rw [h.han, h.hal, hgh] at c7
  rw [h.enn] at c5
  rw [h0] at ch
  have d6 := h.doers6
  have HRD := hide (rready_any R w h)
  have hrl := R.ready_le
  have ht := h.txns
  have ht1 := h.ends1
  have hd' : (d : Int) < (R.doers : Int) := by omega
  obtain ⟨hr, hle⟩ := hyes
  obtain ⟨ge, hge, ce⟩ := h.endCell (k := R.ready - 1) (by omega)
  rw [hge] at c5
  obtain ⟨q, hq⟩ : ∃ q, R.ready = q + 1 := ⟨R.ready - 1, by omega⟩
  rw [hq] at HRD ce hle hrl
  simp only [Nat.add_sub_cancel] at ce hle
  generalize R.ends.getD q 0 = E at *
  have hle' : ¬ ((E : Int) ≤ (R.taken : Int)) := by omega
  have dq2 : ((q : Int) + 1 == 0) = false := by rw [beq_eq_false_iff_ne]; omega
  have hql : (q : Int) < (R.ends.length : Int) := by omega
  have dle : decide ((E : Int) ≤ (R.taken : Int)) = false := by simp; omega
  have HR := hide h
  have HGH := hide hgh
  have hbl := h.row.lt
  clear hr hq hge h0 h hgh
  go_enter Tryz.func80, Tryz.ntmps80
  go_wp2_with (go_at_call 75; refine HRD.out.mono ?_; rintro e w' ⟨rfl, n1, rfl⟩)
  go_quiet (fail)
  go_wp2
  -- Taken
  obtain ⟨q1, q2⟩ := refAt_withTaken (HR.out.drewN (n1 + nq)) (R.taken + 1)
  rw [show ((R.taken + 1 : Nat) : Int) = (R.taken : Int) + 1 by omega] at q1 q2
  have RA1 := hide q1
  have CA1 := hide ((Chg.drewN w (n1 + nq) _).trans q2)
  have x7 : ((w.drewN (n1 + nq)).setCell ⟨R.b, 9, none⟩ (.int .i64 ((R.taken : Int) + 1))).cell? ⟨R.b, 7, none⟩ = some (.slice (some ⟨gh, 0, none⟩) R.doers R.haS.c) := by
    have := q1.row.cell' (i := 7) (v := .slice R.haS.a R.haS.n R.haS.c) rfl
    rw [HR.out.han, HR.out.hal, HGH.out] at this; exact this
  have x9 : ((w.drewN (n1 + nq)).setCell ⟨R.b, 9, none⟩ (.int .i64 ((R.taken : Int) + 1))).cell? ⟨R.b, 9, none⟩ = some (.int .i64 ((R.taken : Int) + 1)) := by
    have := q1.row.cell' (i := 9) (v := .int .i64 (R.taken + 1 : Nat)) rfl
    rw [show ((R.taken + 1 : Nat) : Int) = (R.taken : Int) + 1 by omega] at this; exact this
  obtain ⟨gh', hgh', xh⟩ := q1.handCell (d := d) hd
  obtain rfl : gh' = gh := by have := HGH.out; rw [show (R.withTaken (R.taken + 1)).haS = R.haS from rfl, this] at hgh'; simpa using hgh'.symm
  have xf := q1.ha.frozen hgh' d
  have hne := (q1.parts_of.2.1 gh' (by simp [Sl.blk, hgh'])).1
  clear q1 q2 ch c7 c9 cf9 c5 ce HRD HR hgh'
  change gh' ≠ R.b at hne
  generalize (w.drewN (n1 + nq)).setCell ⟨R.b, 9, none⟩ (.int .i64 ((R.taken : Int) + 1)) = W1 at *
  have KS : Hid (∀ w', Chg W1 w' (· = gh') → (w'.cell? ⟨R.b, 7, none⟩ = some (.slice (some ⟨gh', 0, none⟩) R.doers R.haS.c) ∧ w'.cell? ⟨R.b, 9, none⟩ = some (.int .i64 ((R.taken : Int) + 1)))) := hide (fun w' hC => ⟨cell_chg hC x7 (fun e => hne e.symm), cell_chg hC x9 (fun e => hne e.symm)⟩)
  go_region_held (fun w' => w'.cell? ⟨R.b, 7, none⟩ = some (.slice (some ⟨gh', 0, none⟩) R.doers R.haS.c) ∧ w'.cell? ⟨R.b, 9, none⟩ = some (.int .i64 ((R.taken : Int) + 1)))
    (first | exact KS.out _ (Chg.refl _ _).drew | exact KS.out _ (Chg.drew (Chg.put (Chg.refl W1 (· = gh')) ⟨gh', d, none⟩ _ rfl))) (fail)
  -- Hand
  obtain ⟨q1, q2⟩ := refAt_withHand RA1.out (g := gh') HGH.out d (R.taken + 1)
  rw [show ((R.taken + 1 : Nat) : Int) = (R.taken : Int) + 1 by omega] at q1 q2
  have RA2 := hide (q1.drewN 1)
  have CA2 := hide (CA1.out.trans (Chg.drew q2))
  clear q1 q2 RA1 CA1 KS x7 x9 xh xf
  change Hid (RefAt (W1.setCell ⟨gh', d, none⟩ (.int .i64 ((R.taken : Int) + 1))).drew _) at RA2
  change Hid (Chg w (W1.setCell ⟨gh', d, none⟩ (.int .i64 ((R.taken : Int) + 1))).drew _) at CA2
  generalize (W1.setCell ⟨gh', d, none⟩ (.int .i64 ((R.taken : Int) + 1))).drew = W2 at *
  -- Did
  have y8 : W2.cell? ⟨R.b, 8, none⟩ = some (.slice R.diS.a R.doers R.diS.c) := by
    have := RA2.out.row.cell' (i := 8) (v := .slice R.diS.a R.diS.n R.diS.c) rfl
    rw [show R.diS.n = R.doers by have h1 := RA2.out.din; have h2 := RA2.out.dil; exact h1.trans h2] at this; exact this
  have y9 : W2.cell? ⟨R.b, 9, none⟩ = some (.int .i64 ((R.taken : Int) + 1)) := by
    have := RA2.out.row.cell' (i := 9) (v := .int .i64 (R.taken + 1 : Nat)) rfl
    rw [show ((R.taken + 1 : Nat) : Int) = (R.taken : Int) + 1 by omega] at this; exact this
  obtain ⟨gd, hgd, yd⟩ := RA2.out.didCell (d := d) hd
  have yf := RA2.out.di.frozen hgd d
  have hne2 : ¬ R.b = gd := fun e => (RA2.out.parts_of.2.2.1 gd (by simp [Sl.blk, hgd])).1 e.symm
  change R.diS.a = some ⟨gd, 0, none⟩ at hgd
  rw [hgd] at y8
  obtain ⟨q1, q2⟩ := refAt_withDid RA2.out hgd d 0
  have RA3 := hide q1
  have CA3 := hide (CA2.out.trans q2)
  have HGD := hide hgd
  clear q1 q2 RA2 CA2 hgd
  go_wp2
  change Hid (RefAt (W2.setCell ⟨gd, d, none⟩ (.int .i64 0)) (R.took d)) at RA3
  change Hid (Chg w (W2.setCell ⟨gd, d, none⟩ (.int .i64 0)) _) at CA3
  clear y8 y9 yd yf
  generalize W2.setCell ⟨gd, d, none⟩ (.int .i64 0) = W3 at *
  have z8 : W3.cell? ⟨R.b, 8, none⟩ = some (.slice (some ⟨gd, 0, none⟩) R.doers R.diS.c) := by
    have := RA3.out.row.cell' (i := 8) (v := .slice R.diS.a R.diS.n R.diS.c) rfl
    rw [show R.diS.n = R.doers by have h1 := RA3.out.din; have h2 := RA3.out.dil; exact h1.trans h2, HGD.out] at this; exact this
  have zd : W3.cell? ⟨gd, d, none⟩ = some (.int .i64 0) := by
    obtain ⟨g2, hg2, c2⟩ := RA3.out.didCell (d := d) hd
    obtain rfl : g2 = gd := by have := HGD.out; rw [show (R.took d).diS = R.diS from rfl, this] at hg2; simpa using hg2.symm
    have e : (R.took d).dids.getD d 0 = 0 := by
      show (R.dids.set d 0).getD d 0 = 0
      by_cases hl : d < R.dids.length
      · simp [List.getD, hl]
      · simp [List.getD, List.getElem?_eq_none (show (R.dids.set d 0).length ≤ d by simp; omega)]
    rw [e] at c2; exact c2
  obtain ⟨g, hg, hgl, hc⟩ := RA3.out.task (i := R.taken) (by exact hlt)
  have z3 : W3.cell? ⟨R.b, 3, none⟩ = some (.slice (some ⟨g, 0, none⟩) R.tasks.length R.tkS.c) := by
    have := RA3.out.row.cell' (i := 3) (v := .slice R.tkS.a R.tkS.n R.tkS.c) rfl
    rw [show R.tkS.n = R.tasks.length from RA3.out.tkn, show R.tkS.a = some ⟨g, 0, none⟩ from hg] at this; exact this
  have hT := RA3.out.tsk _ (List.getElem_mem (show R.taken < (R.took d).tasks.length from hlt))
  change TskAt W3 (R.tasks[R.taken]) at hT
  have ed := hc 3 (.slice (R.tasks[R.taken]).didS.a (R.tasks[R.taken]).didS.n (R.tasks[R.taken]).didS.c) rfl
  rw [hT.didn] at ed
  have HGT := hide (show R.tkS.a = some ⟨g, 0, none⟩ from hg)
  clear hc hg hT
  generalize hLe : (R.tasks[R.taken]).crs.did.length = L at *
  have HLe := hide hLe
  clear hLe
  generalize (R.tasks[R.taken]).didS.a = da at *
  generalize (R.tasks[R.taken]).didS.c = dc at *
  have hlt' : (R.taken : Int) < (R.tasks.length : Int) := by omega
  go_quiet (fail)
  have RA4 := hide (RA3.out.drewN nq)
  have CA4 := hide (CA3.out.trans (Chg.drewN W3 nq _))
  have z3' : (W3.drewN nq).cell? ⟨R.b, 3, none⟩ = some (.slice (some ⟨g, 0, none⟩) R.tasks.length R.tkS.c) := z3
  clear z3 z8 zd ed RA3 CA3
  generalize W3.drewN nq = W4 at *
  by_cases hL : L = 0
  · subst hL
    obtain ⟨q1, q2⟩ := refAt_withEnded RA4.out (g := g) HGT.out (m := R.taken) (by exact hlt)
    obtain ⟨_, _, _, hc⟩ := RA4.out.task (i := R.taken) (by exact hlt)
    have RA5 := hide q1
    have CA5 := hide (CA4.out.trans q2)
    obtain ⟨g2, hg2, hgl2, hc2⟩ := RA4.out.task (i := R.taken) (by exact hlt)
    obtain rfl : g2 = g := by have := HGT.out; rw [show (R.took d).tkS = R.tkS from rfl, this] at hg2; simpa using hg2.symm
    have t8 := hc2 8 (.bool ((R.took d).tasks[R.taken]'(by exact hlt)).ended) rfl
    have tf := RA4.out.tk.frozen (show (R.took d).tkS.a = some ⟨g2, 0, none⟩ from HGT.out) (R.taken * 10 + 8)
    obtain ⟨gh2, hgh2, u7⟩ := RA5.out.handCell (d := d) hd
    obtain rfl : gh2 = gh' := by have := HGH.out; rw [show ((R.took d).withEnded R.taken).haS = R.haS from rfl, this] at hgh2; simpa using hgh2.symm
    have uf := RA5.out.ha.frozen hgh2 d
    have v7 : (W4.setCell ⟨g2, R.taken * 10 + 8, none⟩ (.bool true)).cell? ⟨R.b, 7, none⟩ = some (.slice (some ⟨gh2, 0, none⟩) R.doers R.haS.c) := by
      have := RA5.out.row.cell' (i := 7) (v := .slice R.haS.a R.haS.n R.haS.c) rfl
      rw [show R.haS.n = R.doers by have h1 := RA5.out.han; have h2 := RA5.out.hal; exact h1.trans h2, HGH.out] at this; exact this
    obtain ⟨q3, q4⟩ := refAt_withHand RA5.out hgh2 d 0
    have RA6 := hide q3
    rw [mut_withEnded] at q4
    have CA6 := hide (CA5.out.trans (show Chg _ _ (fun k => k ∈ R.mut) from q4))
    clear q1 q2 q3 q4 hc hc2 hg2 hgh2 hgl2 RA4 CA4 RA5 CA5
    go_wp2
    go_ret
    exact ⟨(R.took d).freed d R.taken, rfl, RA6.out, CA6.out, foot_freed (R.took d) d R.taken, rfl, fun _ => rfl, fun h => absurd HLe.out h⟩
  · have hL' : ¬ ((0 : Int) = (L : Int)) := by omega
    go_wp2
    go_ret
    exact ⟨R.took d, rfl, RA4.out, CA4.out, rfl, rfl, fun h => absurd (by rw [HLe.out] at h; exact h) hL, fun _ => rfl⟩

end Go.Proofs.YtlheloogmgmjnaaGreat

namespace Go.Proofs.YtlheloogmgmjnaaGreat
open Go.RowKit

def sizeOk (p d r : Int) : Prop := 1 ≤ p ∧ p ≤ 8 ∧ 1 ≤ d ∧ d ≤ 6 ∧ 0 ≤ r ∧ r ≤ 500

set_option maxHeartbeats 2000000 in
set_option maxRecDepth 100000 in
theorem rNew_no (p d r : Int) (w : World) (h : ¬ sizeOk p d r) :
    Calls Tryz.prog 41 #[.int .i64 p, .int .i64 d, .int .i64 r] w fun e w' => e = .returned (.tuple #[.pointer none, .int .i64 1]) ∧ w' = w := by
  have hcase : p < 1 ∨ (1 ≤ p ∧ 8 < p) ∨ (1 ≤ p ∧ p ≤ 8 ∧ d < 1) ∨ (1 ≤ p ∧ p ≤ 8 ∧ 1 ≤ d ∧ 6 < d) ∨ (1 ≤ p ∧ p ≤ 8 ∧ 1 ≤ d ∧ d ≤ 6 ∧ r < 0) ∨ (1 ≤ p ∧ p ≤ 8 ∧ 1 ≤ d ∧ d ≤ 6 ∧ 0 ≤ r ∧ 500 < r) := by unfold sizeOk at h; omega
  clear h
  rcases hcase with h1 | ⟨h1, h2⟩ | ⟨h1, h2, h3⟩ | ⟨h1, h2, h3, h4⟩ | ⟨h1, h2, h3, h4, h5⟩ | ⟨h1, h2, h3, h4, h5, h6⟩
  all_goals
    go_enter Tryz.func41, Tryz.ntmps41
    go_wp2
    go_ret2
    exact ⟨rfl, rfl⟩

def newRM (b i1 i2 i3 i4 p d r : Nat) : RM :=
  { b := b, parts := p, doers := d, room := r, taken := 0, tasks := [], hv := List.replicate 24 Slot.none, ends := [], dealt := List.replicate p 0, hand := List.replicate d 0, dids := List.replicate d 0
    tkS := Sl.nil, hvS := ⟨some ⟨i1, 0, none⟩, 24, 24⟩, enS := Sl.nil, deS := ⟨some ⟨i2, 0, none⟩, p, p⟩, haS := ⟨some ⟨i3, 0, none⟩, d, d⟩, diS := ⟨some ⟨i4, 0, none⟩, d, d⟩ }

def zeroSlots : List Value := slotCells (List.replicate 24 Slot.none)
def zeroInts (n : Nat) : List Value := ints (nats (List.replicate n 0))

theorem refAt_new {w : World} {b i1 i2 i3 i4 p d r : Nat} (h : sizeOk p d r)
    (hb : RowAt w b 42 [.int .i64 p, .int .i64 d, .int .i64 r, .slice none 0 0, .slice (some ⟨i1, 0, none⟩) 24 24, .slice none 0 0, .slice (some ⟨i2, 0, none⟩) p p, .slice (some ⟨i3, 0, none⟩) d d, .slice (some ⟨i4, 0, none⟩) d d, .int .i64 0])
    (h1 : RowAt w i1 172 zeroSlots) (h2 : RowAt w i2 3 (zeroInts p)) (h3 : RowAt w i3 3 (zeroInts d)) (h4 : RowAt w i4 3 (zeroInts d)) (hn : [b, i1, i2, i3, i4].Nodup) : RefAt w (newRM b i1 i2 i3 i4 p d r) := by
  obtain ⟨a1, a2, a3, a4, a5, a6⟩ := h
  exact
    { row := hb
      tk := Own.nil _ _ _
      tkn := rfl
      hv := Own.of_row h1 (by show (slotCells (List.replicate 24 Slot.none)).length = 24 * 2; simp [slotCells_length]) (by unfold maxLen; omega)
      hvn := rfl
      hvl := by simp [newRM]
      en := Own.nil _ _ _
      enn := rfl
      de := Own.of_row h2 (by show (ints (nats (List.replicate p 0))).length = p * 1; simp [ints, nats]) (by unfold maxLen; omega)
      den := by simp [newRM]
      del := by simp [newRM]
      ha := Own.of_row h3 (by show (ints (nats (List.replicate d 0))).length = d * 1; simp [ints, nats]) (by unfold maxLen; omega)
      han := by simp [newRM]
      hal := by simp [newRM]
      di := Own.of_row h4 (by show (ints (nats (List.replicate d 0))).length = d * 1; simp [ints, nats]) (by unfold maxLen; omega)
      din := by simp [newRM]
      dil := by simp [newRM]
      tsk := fun t ht => by simp [newRM] at ht
      nodup := by simpa [RM.mut, newRM, Sl.blk, Sl.nil] using hn
      apart := fun k hk => by simp [RM.imm, newRM] at hk
      immlt := fun k hk => by simp [RM.imm, newRM] at hk
      parts1 := by simp only [newRM]; omega
      parts8 := by simp only [newRM]; omega
      doers1 := by simp only [newRM]; omega
      doers6 := by simp only [newRM]; omega
      room500 := by simp only [newRM]; omega
      txns := by simp [newRM]
      ends1 := by simp [newRM]
      ends2 := by simp [newRM]
      endsle := fun e he => by simp [newRM] at he
      dealtle := fun e he => by simp [newRM] at he; omega }

theorem ends_new {e : Ending} {w wx : World} {b i1 i2 i3 i4 p d r : Nat}
    (he : e = .returned (.tuple #[.pointer (some ⟨b, 0, none⟩), .int .i64 0]))
    (hb : RowAt wx b 42 [.int .i64 p, .int .i64 d, .int .i64 r, .slice none 0 0, .slice (some ⟨i1, 0, none⟩) 24 24, .slice none 0 0, .slice (some ⟨i2, 0, none⟩) p p, .slice (some ⟨i3, 0, none⟩) d d, .slice (some ⟨i4, 0, none⟩) d d, .int .i64 0])
    (h1 : RowAt wx i1 172 zeroSlots) (h2 : RowAt wx i2 3 (zeroInts p)) (h3 : RowAt wx i3 3 (zeroInts d)) (h4 : RowAt wx i4 3 (zeroInts d)) (hn : [b, i1, i2, i3, i4].Nodup) (hk : ∀ k ∈ [b, i1, i2, i3, i4], w.heap.size ≤ k) (hbl : Below w.heap.size w wx)
    (fin : RowAt wx b 42 [.int .i64 p, .int .i64 d, .int .i64 r, .slice none 0 0, .slice (some ⟨i1, 0, none⟩) 24 24, .slice none 0 0, .slice (some ⟨i2, 0, none⟩) p p, .slice (some ⟨i3, 0, none⟩) d d, .slice (some ⟨i4, 0, none⟩) d d, .int .i64 0] →
      RowAt wx i1 172 zeroSlots → RowAt wx i2 3 (zeroInts p) → RowAt wx i3 3 (zeroInts d) → RowAt wx i4 3 (zeroInts d) → [b, i1, i2, i3, i4].Nodup → RefAt wx (newRM b i1 i2 i3 i4 p d r)) :
    ∃ b i1 i2 i3 i4, e = .returned (.tuple #[.pointer (some ⟨b, 0, none⟩), .int .i64 0]) ∧ RefAt wx (newRM b i1 i2 i3 i4 p d r) ∧ (∀ k ∈ [b, i1, i2, i3, i4], w.heap.size ≤ k) ∧ Below w.heap.size w wx :=
  ⟨b, i1, i2, i3, i4, he, fin hb h1 h2 h3 h4 hn, hk, hbl⟩

theorem made_zero (n : Nat) : madeCells #[.int .i64 0] n = (zeroInts n).toArray := by
  apply Array.toList_inj.1
  rw [toList_madeCells_one]
  simp [zeroInts, ints, nats]

theorem rowAt_top {w : World} {cs : List Value} {c : Array Value} {t : TypeId} {g : Nat} (hg : g = w.heap.size) (hc : c = cs.toArray) : RowAt (w.alloc (.cells c t)) g t cs := by
  subst hg hc; exact rowAt_alloc w cs t

set_option maxHeartbeats 16000000 in
set_option maxRecDepth 100000 in
theorem rNew_yes (p d r : Nat) (w : World) (h : sizeOk p d r) :
    Calls Tryz.prog 41 #[.int .i64 p, .int .i64 d, .int .i64 r] w fun e w' => ∃ b i1 i2 i3 i4, e = .returned (.tuple #[.pointer (some ⟨b, 0, none⟩), .int .i64 0]) ∧ RefAt w' (newRM b i1 i2 i3 i4 p d r) ∧ (∀ k ∈ [b, i1, i2, i3, i4], w.heap.size ≤ k) ∧ Below w.heap.size w w' := by
  have hz := hide h
  obtain ⟨h1, h2, h3, h4, h5, h6⟩ := h
  have hmp := run_make_row' (P := Tryz.prog) 30 3 (.int .i64 0) 8 Tryz.underlying30 Tryz.info3 rfl .i64 .i64 p (by omega) (by omega)
  have hmd := run_make_row' (P := Tryz.prog) 30 3 (.int .i64 0) 8 Tryz.underlying30 Tryz.info3 rfl .i64 .i64 d (by omega) (by omega)
  have hms : ∀ wx : World, (Instr.makeSlice 40 (.int .i64 24) (.int .i64 24)).run Tryz.prog wx = .ok (.slice (some ⟨wx.heap.size, 0, none⟩) 24 24) (wx.alloc (.cells zeroSlots.toArray 172)) := fun wx => by kernel_rfl
  rw [made_zero] at hmp hmd
  have fin := hide (fun (wx : World) (b i1 i2 i3 i4 : Nat) => refAt_new (w := wx) (b := b) (i1 := i1) (i2 := i2) (i3 := i3) (i4 := i4) hz.out)
  clear hz
  generalize hSC : zeroSlots.toArray = SC at *
  generalize hDP : (zeroInts p).toArray = DP at *
  generalize hDD : (zeroInts d).toArray = DD at *
  have HSC := hide hSC.symm; have HDP := hide hDP.symm; have HDD := hide hDD.symm
  clear hSC hDP hDD
  go_enter Tryz.func41, Tryz.ntmps41
  go_wp2
  go_region
  all_goals
    go_wp2
    go_ret2
    apply ends_new
    · rfl
    · exact (rowAt_top (by simp) rfl).drew
    · refine RowAt.drew ?_; repeat (first | (refine rowAt_top ?_ HSC.out; simp; done) | refine RowAt.alloc ?_ _)
    · refine RowAt.drew ?_; repeat (first | (refine rowAt_top ?_ HDP.out; simp; done) | refine RowAt.alloc ?_ _)
    · refine RowAt.drew ?_; repeat (first | (refine rowAt_top ?_ HDD.out; simp; done) | refine RowAt.alloc ?_ _)
    · refine RowAt.drew ?_; repeat (first | (refine rowAt_top ?_ HDD.out; simp; done) | refine RowAt.alloc ?_ _)
    · simp; omega
    · intro k hk; simp at hk; omega
    · exact (below_on (below_on (below_on (below_on (below_alloc1 _ _) (below_alloc1 _ _)) (below_alloc1 _ _)) (below_alloc1 _ _)) (below_alloc1 _ _)).drew
    · exact fin.out _ _ _ _ _ _

end Go.Proofs.YtlheloogmgmjnaaGreat
