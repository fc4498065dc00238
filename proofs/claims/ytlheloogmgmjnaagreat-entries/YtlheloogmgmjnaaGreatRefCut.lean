import Derived.Test.YtlheloogmgmjnaaGreatRefLive
import Derived.Test.YtlheloogmgmjnaaGreatAppend
import Derived.Test.YtlheloogmgmjnaaGreatNumbers
import Derived.Deep.RegionHeldLaw
import Derived.Deep.DeepMust
namespace Go.Proofs.YtlheloogmgmjnaaGreat
open Go.RowKit

theorem RefAt.mut_lt {w : World} {M : RM} (h : RefAt w M) : ∀ k ∈ M.mut, k < w.heap.size := by
  intro k hk
  simp only [RM.mut, List.mem_cons, List.mem_append, List.mem_flatMap] at hk
  rcases hk with rfl | hk | hk | hk | hk | hk | hk | ⟨t, ht, hk⟩
  · exact h.row.lt
  · exact h.tk.blk_lt k hk
  · exact h.hv.blk_lt k hk
  · exact h.en.blk_lt k hk
  · exact h.de.blk_lt k hk
  · exact h.ha.blk_lt k hk
  · exact h.di.blk_lt k hk
  · exact (h.tsk t ht).gone.blk_lt k hk

def RM.foot (M : RM) : List Nat := M.mut ++ M.imm

theorem blk_le1 (s : Sl) : s.blk.length ≤ 1 := by unfold Sl.blk; split <;> simp

/-- One part of the blocks is laid anew. -/
theorem nodup_replace {A E E' B : List Nat} (h : (A ++ (E ++ B)).Nodup) (hl : E'.length ≤ 1) (hk : ∀ k ∈ E', k ∈ E ∨ k ∉ A ++ (E ++ B)) : (A ++ (E' ++ B)).Nodup := by
  rw [List.nodup_append] at h ⊢
  obtain ⟨hA, hEB, hd⟩ := h
  rw [List.nodup_append] at hEB
  obtain ⟨hE, hB, hd2⟩ := hEB
  have key : ∀ k ∈ E', k ∉ A ∧ k ∉ B := by
    intro k hk'
    rcases hk k hk' with h | h
    · exact ⟨fun ha => hd k ha k (by simp [h]) rfl, fun hb => hd2 k h k hb rfl⟩
    · simp only [List.mem_append, not_or] at h; exact ⟨h.1, h.2.2⟩
  refine ⟨hA, ?_, ?_⟩
  · rw [List.nodup_append]
    refine ⟨?_, hB, ?_⟩
    · match E', hl with
      | [], _ => simp
      | [x], _ => simp
    · intro a ha b hb e; subst e; exact (key a ha).2 hb
  · intro a ha b hb e
    subst e
    rcases List.mem_append.1 hb with h | h
    · exact (key a h).1 ha
    · exact hd a ha a (by simp [h]) rfl

theorem nodup_disj {A E B : List Nat} (h : (A ++ (E ++ B)).Nodup) : (∀ k ∈ A, k ∉ E) ∧ (∀ k ∈ B, k ∉ E) := by
  rw [List.nodup_append] at h
  obtain ⟨_, hEB, hd⟩ := h
  rw [List.nodup_append] at hEB
  exact ⟨fun k ha he => hd k ha k (by simp [he]) rfl, fun k hb he => hEB.2.2 k he k hb rfl⟩

theorem RefAt.b_apart {w : World} {M : RM} (h : RefAt w M) : ∀ k ∈ M.tkS.blk ++ (M.hvS.blk ++ (M.enS.blk ++ (M.deS.blk ++ (M.haS.blk ++ (M.diS.blk ++ M.tasks.flatMap fun t => t.goneS.blk))))), k ≠ M.b := by
  intro k hk e
  have := h.nodup
  rw [RM.mut, List.nodup_cons] at this
  exact this.1 (by rw [← e]; exact hk)

/-- The store behind a new end of a batch. -/
def RM.withEnd (M : RM) (s : Sl) : RM := { M with ends := M.ends ++ [M.tasks.length], enS := s }

theorem mem_mut_en {M : RM} {k : Nat} (h : k ∈ M.enS.blk) : k ∈ M.mut := by simp [RM.mut, h]

theorem refAt_withEnd {w w1 : World} {M : RM} {s : Sl} {sv : Value} (h : RefAt w M) (hlt : M.ends.length < M.tasks.length) (ho : Own w1 3 1 s (ints (nats M.ends) ++ [.int .i64 M.tasks.length])) (hn : s.n = M.enS.n + 1) (hc : Chg w w1 (fun k => k ∈ M.enS.blk)) (hb : ∀ k ∈ s.blk, k ∈ M.enS.blk ∨ w.heap.size ≤ k) (hsv : sv = .slice s.a s.n s.c) :
    RefAt (w1.setCell ⟨M.b, 5, none⟩ sv) (M.withEnd s) ∧ Chg w (w1.setCell ⟨M.b, 5, none⟩ sv) (fun k => k ∈ M.mut) ∧ (∀ k ∈ (M.withEnd s).foot, k ∈ M.foot ∨ w.heap.size ≤ k) := by
  subst hsv
  have hmut : M.mut = ([M.b] ++ M.tkS.blk ++ M.hvS.blk) ++ (M.enS.blk ++ (M.deS.blk ++ (M.haS.blk ++ (M.diS.blk ++ M.tasks.flatMap fun t => t.goneS.blk)))) := by simp [RM.mut]
  have hmut' : (M.withEnd s).mut = ([M.b] ++ M.tkS.blk ++ M.hvS.blk) ++ (s.blk ++ (M.deS.blk ++ (M.haS.blk ++ (M.diS.blk ++ M.tasks.flatMap fun t => t.goneS.blk)))) := by simp [RM.mut, RM.withEnd]
  have hnd := h.nodup
  have hbm : ∀ k ∈ s.blk, k ∈ M.enS.blk ∨ k ∉ M.mut := fun k hk => (hb k hk).imp id (fun h1 h2 => by have := h.mut_lt k h2; omega)
  have hnd' : (M.withEnd s).mut.Nodup := by
    rw [hmut']; rw [hmut] at hnd
    refine nodup_replace hnd (blk_le1 s) (fun k hk => ?_)
    rw [← hmut]; exact hbm k hk
  have hcm : Chg w (w1.setCell ⟨M.b, 5, none⟩ (.slice s.a s.n s.c)) (fun k => k = M.b ∨ k ∈ M.enS.blk) := (hc.mono (fun k _ hk => Or.inr hk)).put ⟨M.b, 5, none⟩ _ (Or.inl rfl)
  have hdis := nodup_disj (A := [M.b] ++ M.tkS.blk ++ M.hvS.blk) (E := M.enS.blk) (B := M.deS.blk ++ (M.haS.blk ++ (M.diS.blk ++ M.tasks.flatMap fun t => t.goneS.blk))) (by rw [← hmut]; exact h.nodup)
  have hba := h.b_apart
  have hA : ∀ k, k ∈ M.tkS.blk ∨ k ∈ M.hvS.blk → ¬ (k = M.b ∨ k ∈ M.enS.blk) := fun k hk hbad => hbad.elim (fun e => hba k (by rcases hk with h | h <;> simp [h]) e) (fun e => hdis.1 k (by rcases hk with h | h <;> simp [h]) e)
  have hB : ∀ k, k ∈ M.deS.blk ++ (M.haS.blk ++ (M.diS.blk ++ M.tasks.flatMap fun t => t.goneS.blk)) → ¬ (k = M.b ∨ k ∈ M.enS.blk) := fun k hk hbad => hbad.elim (fun e => hba k (by simp only [List.mem_append] at hk ⊢; exact Or.inr (Or.inr (Or.inr hk))) e) (fun e => hdis.2 k hk e)
  have hI : ∀ k ∈ M.imm, ¬ (k = M.b ∨ k ∈ M.enS.blk) := fun k hk hbad => h.apart k hk (hbad.elim (fun e => by rw [e]; simp [RM.mut]) (fun e => mem_mut_en e))
  have hbs : ∀ k ∈ s.blk, k ≠ M.b := fun k hk e => (hbm k hk).elim (fun he => hba k (by simp [he]) e) (fun he => he (by rw [e]; simp [RM.mut]))
  have hb1 : M.b ∉ M.enS.blk := fun he => hba M.b (by simp [he]) rfl
  refine ⟨{ h with
    row := ?_
    tk := h.tk.chg hcm (fun k hk => hA k (Or.inl hk))
    hv := h.hv.chg hcm (fun k hk => hA k (Or.inr hk))
    en := ?_
    enn := by simp [RM.withEnd, hn, h.enn]
    de := h.de.chg hcm (fun k hk => hB k (by simp [hk]))
    ha := h.ha.chg hcm (fun k hk => hB k (by simp [hk]))
    di := h.di.chg hcm (fun k hk => hB k (by simp [hk]))
    tsk := fun t ht => (h.tsk t ht).chg hcm (fun k hk => hI k (by simp only [RM.imm, List.mem_flatMap]; exact ⟨t, ht, hk⟩)) (fun k hk => hB k (by simp only [List.mem_append, List.mem_flatMap]; exact Or.inr (Or.inr (Or.inr ⟨t, ht, hk⟩))))
    nodup := hnd'
    apart := ?_
    immlt := fun k hk => Nat.lt_of_lt_of_le (h.immlt k hk) hcm.size
    ends1 := by simp [RM.withEnd]; omega
    ends2 := by simp [RM.withEnd, List.getD]; omega
    endsle := ?_ }, hcm.mono (fun k _ hk => hk.elim (fun e => by rw [e]; simp [RM.mut]) (fun e => mem_mut_en e)), ?_⟩
  · have := (h.row.chg hc hb1).set 5 (.slice s.a s.n s.c)
    exact this
  · have e1 : ints (nats M.ends) ++ [.int .i64 M.tasks.length] = ints (nats (M.ends ++ [M.tasks.length])) := by simp [ints, nats]
    rw [e1] at ho
    exact ho.chg (Chg.setCell w1 ⟨M.b, 5, none⟩ _) (fun k hk => hbs k hk)
  · intro k hk hbad
    rw [hmut'] at hbad
    have hk' : k ∉ M.mut := h.apart k hk
    rw [hmut] at hk'
    simp only [List.mem_append, not_or] at hk' hbad
    rcases hbad with h1 | h1 | h1
    · rcases h1 with (h1 | h1) | h1
      · exact hk'.1.1.1 h1
      · exact hk'.1.1.2 h1
      · exact hk'.1.2 h1
    · rcases hb k h1 with h2 | h2
      · exact hk'.2.1 h2
      · have := h.immlt k hk; omega
    · rcases h1 with h1 | h1 | h1 | h1
      · exact hk'.2.2.1 h1
      · exact hk'.2.2.2.1 h1
      · exact hk'.2.2.2.2.1 h1
      · exact hk'.2.2.2.2.2 h1
  · intro e he
    simp only [RM.withEnd, List.mem_append, List.mem_singleton] at he
    rcases he with he | he
    · exact h.endsle e he
    · rw [he]; exact Nat.le_refl _
  · intro k hk
    simp only [RM.foot, List.mem_append] at hk
    rcases hk with hk | hk
    · rw [hmut'] at hk
      simp only [List.mem_append] at hk
      rcases hk with h1 | h1 | h1
      · left; simp only [RM.foot, List.mem_append]; left; rw [hmut]; simp only [List.mem_append]; exact Or.inl h1
      · rcases hb k h1 with h2 | h2
        · left; simp only [RM.foot, List.mem_append]; left; exact mem_mut_en h2
        · right; exact h2
      · left; simp only [RM.foot, List.mem_append]; left; rw [hmut]; simp only [List.mem_append]; exact Or.inr (Or.inr h1)
    · left; simp only [RM.foot, List.mem_append]; exact Or.inr hk

theorem RefAt.drew {w : World} {M : RM} (h : RefAt w M) : RefAt w.drew M := h.below (Below.refl _ _).drew

theorem RefAt.closed_le {w : World} {M : RM} (h : RefAt w M) : M.closed ≤ M.tasks.length ∧ M.ends.length ≤ M.closed := by
  refine ⟨?_, h.ends2⟩
  unfold RM.closed
  by_cases h0 : M.ends.length = 0
  · rw [List.eq_nil_of_length_eq_zero h0]; simp
  · have hk : M.ends.length - 1 < M.ends.length := by omega
    rw [nat_get hk]; exact h.endsle _ (List.getElem_mem hk)

set_option maxHeartbeats 2000000 in
set_option maxRecDepth 100000 in
theorem rCut_yes (M : RM) (w : World) (h : RefAt w M) (hlt : M.closed < M.tasks.length) :
    Calls Tryz.prog 43 #[.pointer (some ⟨M.b, 0, none⟩)] w fun e w' => ∃ s, e = .returned (.int .i64 (M.ends.length + 1 : Nat)) ∧ RefAt w' (M.withEnd s) ∧ Chg w w' (fun k => k ∈ M.mut) ∧ (∀ k ∈ (M.withEnd s).foot, k ∈ M.foot ∨ w.heap.size ≤ k) := by
  obtain ⟨i0, hi, hz0, hz1, hz2⟩ := info_parts Tryz.info3
  have c3 := h.row.cell' (i := 3) (v := .slice M.tkS.a M.tkS.n M.tkS.c) rfl
  have c5 := h.row.cell' (i := 5) (v := .slice M.enS.a M.enS.n M.enS.c) rfl
  have cf5 := h.row.frozen 5
  rw [h.tkn] at c3
  have hel := h.closed_le
  have ht := h.txns
  have hbl := h.row.lt
  have HC := hide (fun n => rclosed_any M (w.drewN n) (h.drewN n))
  have hlt' : (M.closed : Int) < (M.tasks.length : Int) := by omega
  have MM := hide (show M.enS.n + 1 ≤ maxLen by rw [h.enn]; unfold maxLen; omega)
  have QQ := hide (show (M.enS.n + 1) * 8 ≤ 140737488355328 by rw [h.enn]; omega)
  have HR := hide h
  clear h
  have HL := hide hlt
  generalize M.closed = C at *
  go_enter Tryz.func43, Tryz.ntmps43
  go_wp2
  go_quiet ((go_at_call 74; exact Calls.quiet_of (HC.out _)))
  go_wp2
  have HW := hide (HR.out.drewN nq)
  have CW := hide (Chg.drewN w nq (fun _ => False))
  have hsz : (w.drewN nq).heap.size = w.heap.size := rfl
  have d3 : (w.drewN nq).cell? ⟨M.b, 3, none⟩ = some (.slice M.tkS.a M.tasks.length M.tkS.c) := c3
  have d5 : (w.drewN nq).cell? ⟨M.b, 5, none⟩ = some (.slice M.enS.a M.enS.n M.enS.c) := c5
  have df : (w.drewN nq).frozen? ⟨M.b, 5, none⟩ = false := cf5
  have hbl' : M.b < (w.drewN nq).heap.size := hbl
  have SZ := hide hsz
  clear hsz c3 c5 cf5 HC hbl
  generalize w.drewN nq = W at *
  have P1 := hide (rowAt_alloc W [.int .i64 M.tasks.length] 3)
  have NB := hide (fun hk => HR.out.b_apart M.b (by simp only [List.mem_append]; exact Or.inr (Or.inr (Or.inl hk))) rfl : M.b ∉ M.enS.blk)
  go_region_law (go_must (refine step_append_sl rfl (.tmp 15) (.tmp 21) 30 rfl 3 i0 (.int .i64 0) 1 8 Tryz.underlying30 hi hz0 hz1 hz2 rfl (by decide) M.enS (ints (nats M.ends)) rfl (HW.out.en.below (by first | exact (below_alloc1 _ _).drew | exact (Below.refl _ _).drew.alloc (Nat.le_refl _) _)) (some ⟨W.heap.size, 0, none⟩) 1 1 [.int .i64 M.tasks.length] rfl rfl (by simp) (fun ad had j u hu => by cases had; rw [addr_add, Nat.zero_add]; first | exact (P1.out.drew).cell' hu | exact P1.out.cell' hu) (by simp [Value.oneCell']) MM.out QQ.out ?_; intro s1 w1 ow1 sn1 ch1 bl1; have OW := hide ow1; have SN := hide sn1; have CH := hide ch1; have BL := hide bl1; have f5 := ((by first | exact ((HW.out.row.alloc _).drew.chg ch1 NB.out) | exact ((HW.out.row.drew.alloc _).chg ch1 NB.out) : RowAt w1 M.b 42 M.row)); have g5 := f5.cell' (i := 5) rfl; have gf := f5.frozen 5; clear ow1 sn1 ch1 bl1 f5))
  all_goals
    have hcc : Chg w w1 (fun k => k ∈ M.enS.blk) := (CW.out.mono (fun _ _ h => h.elim)).trans ((Chg.of_below (below_alloc1 W (.cells #[.int .i64 M.tasks.length] 3)).drew _).trans CH.out)
    have hbb : ∀ k ∈ s1.blk, k ∈ M.enS.blk ∨ w.heap.size ≤ k := fun k hk => (BL.out k hk).imp id (fun h => by rw [h, ← SZ.out]; show W.heap.size ≤ (W.alloc _).heap.size; simp)
    obtain ⟨r1, r2, r3⟩ := refAt_withEnd (sv := .slice s1.a s1.n s1.c) HR.out (by omega) OW.out SN.out hcc hbb rfl
    have RR := hide r1; have CC := hide r2; have FF := hide r3
    have hn := hide (show s1.n = M.ends.length + 1 by rw [SN.out, HR.out.enn])
    have hs1 : s1.n ≤ 151 := by rw [hn.out]; omega
    clear r1 r2 r3 hcc hbb OW SN CH BL HW CW d3 d5 df P1
    go_wp2
    go_ret
    exact ⟨s1, ret_int (by rw [hn.out]), RR.out, CC.out, FF.out⟩

set_option maxHeartbeats 2000000 in
set_option maxRecDepth 100000 in
theorem rCut_no (M : RM) (w : World) (h : RefAt w M) (hlt : ¬ M.closed < M.tasks.length) :
    Calls Tryz.prog 43 #[.pointer (some ⟨M.b, 0, none⟩)] w fun e w' => e = .returned (.int .i64 M.ends.length) ∧ ∃ n, w' = w.drewN n := by
  have c3 := h.row.cell' (i := 3) (v := .slice M.tkS.a M.tkS.n M.tkS.c) rfl
  have c5 := h.row.cell' (i := 5) (v := .slice M.enS.a M.enS.n M.enS.c) rfl
  rw [h.tkn] at c3
  rw [h.enn] at c5
  have ht := h.txns
  have ht1 := h.ends1
  have hbl := h.row.lt
  have HC := hide (fun n => rclosed_any M (w.drewN n) (h.drewN n))
  have hlt' : ¬ (M.closed : Int) < (M.tasks.length : Int) := by omega
  clear h
  generalize M.closed = C at *
  go_enter Tryz.func43, Tryz.ntmps43
  go_wp2
  go_quiet ((go_at_call 74; exact Calls.quiet_of (HC.out _)))
  go_wp2
  go_ret
  exact ⟨rfl, _, rfl⟩

end Go.Proofs.YtlheloogmgmjnaaGreat
