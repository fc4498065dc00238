import Derived.Test.YtlheloogmgmjnaaGreatRefCut
import Derived.Test.YtlheloogmgmjnaaGreatGoDef
import Derived.Test.YtlheloogmgmjnaaGreatCopied
namespace Go.Proofs.YtlheloogmgmjnaaGreat
open Go.RowKit

/-- What the keys have when the first k slots have been laid. -/
def putTo (hv : List Slot) (ks : List Int) (ws : List Slot) : Nat → List Slot
  | 0 => hv
  | k + 1 => (putTo hv ks ws k).set (ks.getD k 0).toNat (ws.getD k Slot.none)
theorem putTo_len (hv : List Slot) (ks : List Int) (ws : List Slot) (k : Nat) : (putTo hv ks ws k).length = hv.length := by
  induction k with
  | zero => rfl
  | succ k ih => simp [putTo, ih]

/-- The store behind one transaction more. -/
def RM.withTask (M : RM) (T : Tsk) (hv : List Slot) (s : Sl) : RM := { M with tasks := M.tasks ++ [T], hv := hv, tkS := s }

theorem flat10_length (l : List Tsk) : (l.flatMap Tsk.row).length = l.length * 10 := by
  induction l with
  | nil => rfl
  | cons x r ih => simp [List.flatMap_cons, ih, Tsk.row]; omega

theorem refAt_withTask {w w1 : World} {M : RM} {T : Tsk} {hv : List Slot} {s : Sl} (h : RefAt w M) (hlt : M.tasks.length < 150) (hvl : hv.length = 24) (hT : TskAt w1 T) (hTg : ∀ k ∈ T.goneS.blk, w.heap.size ≤ k) (hTi : ∀ k ∈ T.imm, w.heap.size ≤ k ∧ k < w1.heap.size) (hTa : ∀ k ∈ T.imm, k ∉ T.goneS.blk)
    (hS : ∀ k ∈ s.blk, k ∈ M.tkS.blk ∨ (w.heap.size ≤ k ∧ k ∉ T.goneS.blk ∧ k ∉ T.imm))
    (hrow : RowAt w1 M.b 42 (M.withTask T hv s).row) (ho : Own w1 171 10 s ((M.tasks ++ [T]).flatMap Tsk.row)) (hn : s.n = M.tasks.length + 1) (hH : Own w1 172 2 M.hvS (slotCells hv))
    (hc : Chg w w1 (fun k => k = M.b ∨ k ∈ M.tkS.blk ∨ k ∈ M.hvS.blk)) :
    RefAt w1 (M.withTask T hv s) ∧ Chg w w1 (fun k => k ∈ M.mut) ∧ (∀ k ∈ (M.withTask T hv s).foot, k ∈ M.foot ∨ w.heap.size ≤ k) := by
  have hmut : M.mut = [M.b] ++ (M.tkS.blk ++ (M.hvS.blk ++ (M.enS.blk ++ (M.deS.blk ++ (M.haS.blk ++ (M.diS.blk ++ M.tasks.flatMap fun t => t.goneS.blk)))))) := by simp [RM.mut]
  have hmut' : (M.withTask T hv s).mut = ([M.b] ++ (s.blk ++ (M.hvS.blk ++ (M.enS.blk ++ (M.deS.blk ++ (M.haS.blk ++ (M.diS.blk ++ M.tasks.flatMap fun t => t.goneS.blk))))))) ++ T.goneS.blk := by simp [RM.mut, RM.withTask]
  have himm' : (M.withTask T hv s).imm = M.imm ++ T.imm := by simp [RM.imm, RM.withTask]
  have hlt' := h.mut_lt
  have hd1 := nodup_disj (A := [M.b]) (E := M.tkS.blk) (by rw [← hmut]; exact h.nodup)
  have hd2 := nodup_disj (A := [M.b] ++ M.tkS.blk) (E := M.hvS.blk) (B := M.enS.blk ++ (M.deS.blk ++ (M.haS.blk ++ (M.diS.blk ++ M.tasks.flatMap fun t => t.goneS.blk)))) (by have := h.nodup; rw [hmut] at this; simpa using this)
  have hba := h.b_apart
  have rest : ∀ k ∈ M.enS.blk ++ (M.deS.blk ++ (M.haS.blk ++ (M.diS.blk ++ M.tasks.flatMap fun t => t.goneS.blk))), ¬ (k = M.b ∨ k ∈ M.tkS.blk ∨ k ∈ M.hvS.blk) := by
    intro k hk hbad
    rcases hbad with e | e | e
    · exact hba k (by simp only [List.mem_append] at hk ⊢; exact Or.inr (Or.inr hk)) e
    · exact hd1.2 k (by simp only [List.mem_append] at hk ⊢; exact Or.inr hk) e
    · exact hd2.2 k hk e
  have hI : ∀ k ∈ M.imm, ¬ (k = M.b ∨ k ∈ M.tkS.blk ∨ k ∈ M.hvS.blk) := fun k hk hbad => h.apart k hk (by rw [hmut]; simp only [List.mem_append, List.mem_singleton]; exact hbad.imp id (Or.imp id Or.inl))
  have hnd0 : ([M.b] ++ (s.blk ++ (M.hvS.blk ++ (M.enS.blk ++ (M.deS.blk ++ (M.haS.blk ++ (M.diS.blk ++ M.tasks.flatMap fun t => t.goneS.blk))))))).Nodup := by
    have := h.nodup; rw [hmut] at this
    refine nodup_replace this (blk_le1 s) (fun k hk => ?_)
    rcases hS k hk with h1 | h1
    · exact Or.inl h1
    · right; rw [← hmut]; intro h2; have := hlt' k h2; omega
  have hmem : ∀ k ∈ [M.b] ++ (s.blk ++ (M.hvS.blk ++ (M.enS.blk ++ (M.deS.blk ++ (M.haS.blk ++ (M.diS.blk ++ M.tasks.flatMap fun t => t.goneS.blk)))))), k ∈ M.mut ∨ k ∈ s.blk := by
    intro k hk
    rw [hmut]
    simp only [List.mem_append] at hk ⊢
    rcases hk with hk | hk | hk
    · exact Or.inl (Or.inl hk)
    · exact Or.inr hk
    · exact Or.inl (Or.inr (Or.inr hk))
  have hnd' : (M.withTask T hv s).mut.Nodup := by
    rw [hmut', List.nodup_append]
    refine ⟨hnd0, ?_, ?_⟩
    · have := blk_le1 T.goneS
      match hq : T.goneS.blk, this with
      | [], _ => simp
      | [x], _ => simp
    · intro a ha b hb e
      subst e
      rcases hmem a ha with h1 | h1
      · have := hlt' a h1; have := hTg a hb; omega
      · rcases hS a h1 with h2 | h2
        · have := hlt' a (by rw [hmut]; simp [h2]); have := hTg a hb; omega
        · exact h2.2.1 hb
  refine ⟨?_, hc.mono (fun k _ hk => by rw [hmut]; simp only [List.mem_append, List.mem_singleton]; exact hk.imp id (Or.imp id Or.inl)), ?_⟩
  · exact { h with
      row := hrow
      tk := ho
      tkn := by simp [RM.withTask, hn]
      hv := hH
      hvl := hvl
      en := h.en.chg hc (fun k hk => rest k (by simp [hk]))
      de := h.de.chg hc (fun k hk => rest k (by simp [hk]))
      ha := h.ha.chg hc (fun k hk => rest k (by simp [hk]))
      di := h.di.chg hc (fun k hk => rest k (by simp [hk]))
      tsk := by
        intro t ht
        simp only [RM.withTask, List.mem_append, List.mem_singleton] at ht
        rcases ht with ht | rfl
        · exact (h.tsk t ht).chg hc (fun k hk => hI k (by simp only [RM.imm, List.mem_flatMap]; exact ⟨t, ht, hk⟩)) (fun k hk => rest k (by simp only [List.mem_append, List.mem_flatMap]; exact Or.inr (Or.inr (Or.inr (Or.inr ⟨t, ht, hk⟩)))))
        · exact hT
      nodup := hnd'
      apart := by
        intro k hk hbad
        rw [himm'] at hk
        rw [hmut'] at hbad
        rcases List.mem_append.1 hk with h1 | h1
        · have hk1 := h.immlt k h1
          rcases List.mem_append.1 hbad with h2 | h2
          · rcases hmem k h2 with h3 | h3
            · exact h.apart k h1 h3
            · rcases hS k h3 with h4 | h4
              · exact h.apart k h1 (by rw [hmut]; simp [h4])
              · omega
          · have := hTg k h2; omega
        · have hk1 := hTi k h1
          rcases List.mem_append.1 hbad with h2 | h2
          · rcases hmem k h2 with h3 | h3
            · have := hlt' k h3; omega
            · rcases hS k h3 with h4 | h4
              · have := hlt' k (by rw [hmut]; simp [h4]); omega
              · exact h4.2.2 h1
          · exact hTa k h1 h2
      immlt := by
        intro k hk
        rw [himm'] at hk
        rcases List.mem_append.1 hk with h1 | h1
        · exact Nat.lt_of_lt_of_le (h.immlt k h1) hc.size
        · exact (hTi k h1).2
      txns := by simp [RM.withTask]; omega
      ends1 := by have := h.ends1; simp [RM.withTask]; omega
      endsle := fun e he => by have := h.endsle e he; simp [RM.withTask]; omega
      dealtle := fun e he => by have := h.dealtle e he; simp [RM.withTask]; omega }
  · intro k hk
    simp only [RM.foot, List.mem_append] at hk ⊢
    rcases hk with hk | hk
    · rw [hmut'] at hk
      rcases List.mem_append.1 hk with h2 | h2
      · rcases hmem k h2 with h3 | h3
        · exact Or.inl (Or.inl h3)
        · rcases hS k h3 with h4 | h4
          · left; left; rw [hmut]; simp [h4]
          · exact Or.inr h4.1
      · exact Or.inr (hTg k h2)
    · rw [himm'] at hk
      rcases List.mem_append.1 hk with h1 | h1
      · exact Or.inl (Or.inr h1)
      · exact Or.inr (hTi k h1).1

end Go.Proofs.YtlheloogmgmjnaaGreat
