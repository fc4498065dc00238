import Derived.Test.YtlheloogmgmjnaaGreatProgRead
import Derived.Test.YtlheloogmgmjnaaGreatProgCopy
import Derived.Test.YtlheloogmgmjnaaGreatRefCut
namespace Go.Proofs.YtlheloogmgmjnaaGreat
open Go.RowKit

def PM.withEnd (M : PM) (s : Sl) : PM := { M with ends := M.ends ++ [M.recs.length], enS := s }
def PM.withRec (M : PM) (r : PRec) (s : Sl) : PM := { M with recs := M.recs ++ [r], rcS := s }

theorem PM.closed_withEnd (M : PM) (s : Sl) : (M.withEnd s).closed = M.recs.length := by simp [PM.closed, PM.withEnd, List.getD]

theorem pAt_withEnd {w w1 : World} {M : PM} {s : Sl} {sv : Value} (h : PAt w M) (hlt : M.closed < M.recs.length) (ho : Own w1 3 1 s (ints (nats M.ends) ++ [.int .i64 M.recs.length])) (hn : s.n = M.enS.n + 1) (hc : Chg w w1 (fun k => k ∈ M.enS.blk)) (hb : ∀ k ∈ s.blk, k ∈ M.enS.blk ∨ w.heap.size ≤ k) (hsv : sv = .slice s.a s.n s.c) :
    PAt (w1.setCell ⟨M.b, 3, none⟩ sv) (M.withEnd s) ∧ Chg w (w1.setCell ⟨M.b, 3, none⟩ sv) (fun k => k ∈ M.mut) ∧ (∀ k ∈ (M.withEnd s).foot, k ∈ M.foot ∨ w.heap.size ≤ k) := by
  subst hsv
  have hlt' := h.foot_lt
  have hnd := h.nodup
  have hmut : M.mut = ([M.b] ++ M.rcS.blk) ++ (M.enS.blk ++ []) := by simp [PM.mut]
  have hmut' : (M.withEnd s).mut = ([M.b] ++ M.rcS.blk) ++ (s.blk ++ []) := by simp [PM.mut, PM.withEnd]
  have hd := nodup_disj (A := [M.b] ++ M.rcS.blk) (E := M.enS.blk) (B := []) (by rw [← hmut]; exact hnd)
  have hbe : M.b ∉ M.enS.blk := hd.1 M.b (by simp)
  have hbm : M.b ∈ M.mut := by simp [PM.mut]
  have hem : ∀ k ∈ M.enS.blk, k ∈ M.mut := fun k hk => by simp [PM.mut, hk]
  have hsm : ∀ k ∈ s.blk, k ∈ M.enS.blk ∨ k ∉ M.foot := fun k hk => (hb k hk).imp id (fun h1 h2 => by have := hlt' k h2; omega)
  have hcm : Chg w (w1.setCell ⟨M.b, 3, none⟩ (.slice s.a s.n s.c)) (fun k => k = M.b ∨ k ∈ M.enS.blk) := (hc.mono (fun k _ hk => Or.inr hk)).put ⟨M.b, 3, none⟩ _ (Or.inl rfl)
  have hI : ∀ k ∈ M.imm, ¬ (k = M.b ∨ k ∈ M.enS.blk) := fun k hk hbad => h.apart k hk (hbad.elim (fun e => by rw [e]; exact hbm) (fun e => hem k e))
  have hR : ∀ k ∈ M.rcS.blk, ¬ (k = M.b ∨ k ∈ M.enS.blk) := fun k hk hbad => hbad.elim (fun e => by rw [PM.mut, List.nodup_cons] at hnd; exact hnd.1 (by rw [← e]; simp [hk])) (fun e => hd.1 k (by simp [hk]) e)
  have hbs : ∀ k ∈ s.blk, k ≠ M.b := fun k hk e => (hsm k hk).elim (fun h1 => hbe (by rw [← e]; exact h1)) (fun h1 => h1 (by rw [e]; simp [PM.foot, hbm]))
  have he := h.endsle
  have he2 := h.ends2
  have he1 := h.ends1
  refine ⟨{ h with
    row := ?_
    rc := h.rc.chg hcm hR
    en := ?_
    enn := by simp [PM.withEnd, hn, h.enn]
    mkO := h.mkO.chg hcm (fun k hk => hI k (by simp [PM.imm, hk]))
    maps := fun g hg => by rw [hcm.block g (blk_of_map (h.maps g hg)) (hI g (by simp [PM.imm, show g ∈ M.mbs from hg]))]; exact h.maps g hg
    nodup := ?_
    apart := ?_
    ends1 := by simp [PM.withEnd]; omega
    ends2 := by rw [PM.closed_withEnd]; simp [PM.withEnd]; omega
    endsle := ?_ }, hcm.mono (fun k _ hk => hk.elim (fun e => by rw [e]; exact hbm) (fun e => hem k e)), ?_⟩
  · exact (h.row.chg hc hbe).set 3 (.slice s.a s.n s.c)
  · have e1 : ints (nats M.ends) ++ [.int .i64 M.recs.length] = ints (nats (M.ends ++ [M.recs.length])) := by simp [ints, nats]
    rw [e1] at ho
    exact ho.chg (Chg.setCell w1 ⟨M.b, 3, none⟩ _) (fun k hk => hbs k hk)
  · rw [hmut']; rw [hmut] at hnd
    exact nodup_replace hnd (blk_le1 s) (fun k hk => (hsm k hk).imp id (fun h1 h2 => h1 (by simp only [PM.foot, List.mem_append]; left; rw [hmut]; simpa using h2)))
  · intro k hk hbad
    have hk' : k ∈ M.imm := hk
    rw [hmut'] at hbad
    simp only [List.append_nil, List.mem_append] at hbad
    rcases hbad with hbad | hbad
    · exact h.apart k hk' (by rw [hmut]; simp only [List.append_nil, List.mem_append]; exact Or.inl hbad)
    · rcases hsm k hbad with h1 | h1
      · exact h.apart k hk' (hem k h1)
      · exact h1 (by simp only [PM.foot, List.mem_append]; exact Or.inr hk')
  · intro e he'
    simp only [PM.withEnd, List.mem_append, List.mem_singleton] at he'
    rcases he' with h1 | h1
    · exact he e h1
    · rw [h1]; exact ⟨by omega, Nat.le_refl _⟩
  · intro k hk
    simp only [PM.foot, List.mem_append] at hk ⊢
    rcases hk with hk | hk
    · rw [hmut'] at hk
      simp only [List.append_nil, List.mem_append] at hk
      rcases hk with h1 | h1
      · left; left; rw [hmut]; simp only [List.append_nil, List.mem_append]; exact Or.inl h1
      · rcases hb k h1 with h2 | h2
        · exact Or.inl (Or.inl (hem k h2))
        · exact Or.inr h2
    · exact Or.inl (Or.inr hk)

theorem flat6_length (l : List PRec) : (l.flatMap PRec.row).length = l.length * 6 := by
  induction l with
  | nil => rfl
  | cons x r ih => simp [List.flatMap_cons, ih, PRec.row]; omega

theorem pAt_withRec {w w1 : World} {M : PM} {r : PRec} {s : Sl} {sv : Value} (h : PAt w M) (hlt : M.recs.length < 150) (hr : r.ended = false) (ho : Own w1 158 6 s (M.recs.flatMap PRec.row ++ r.row)) (hn : s.n = M.rcS.n + 1) (hc : Chg w w1 (fun k => k ∈ M.rcS.blk)) (hb : ∀ k ∈ s.blk, k ∈ M.rcS.blk ∨ w.heap.size ≤ k) (hsv : sv = .slice s.a s.n s.c) :
    PAt (w1.setCell ⟨M.b, 2, none⟩ sv) (M.withRec r s) ∧ Chg w (w1.setCell ⟨M.b, 2, none⟩ sv) (fun k => k ∈ M.mut) ∧ (∀ k ∈ (M.withRec r s).foot, k ∈ M.foot ∨ w.heap.size ≤ k) := by
  subst hsv
  have hlt' := h.foot_lt
  have hnd := h.nodup
  have hmut : M.mut = [M.b] ++ (M.rcS.blk ++ M.enS.blk) := by simp [PM.mut]
  have hmut' : (M.withRec r s).mut = [M.b] ++ (s.blk ++ M.enS.blk) := by simp [PM.mut, PM.withRec]
  have hd := nodup_disj (A := [M.b]) (E := M.rcS.blk) (B := M.enS.blk) (by rw [← hmut]; exact hnd)
  have hbe : M.b ∉ M.rcS.blk := hd.1 M.b (by simp)
  have hbm : M.b ∈ M.mut := by simp [PM.mut]
  have hem : ∀ k ∈ M.rcS.blk, k ∈ M.mut := fun k hk => by simp [PM.mut, hk]
  have hsm : ∀ k ∈ s.blk, k ∈ M.rcS.blk ∨ k ∉ M.foot := fun k hk => (hb k hk).imp id (fun h1 h2 => by have := hlt' k h2; omega)
  have hcm : Chg w (w1.setCell ⟨M.b, 2, none⟩ (.slice s.a s.n s.c)) (fun k => k = M.b ∨ k ∈ M.rcS.blk) := (hc.mono (fun k _ hk => Or.inr hk)).put ⟨M.b, 2, none⟩ _ (Or.inl rfl)
  have hI : ∀ k ∈ M.imm, ¬ (k = M.b ∨ k ∈ M.rcS.blk) := fun k hk hbad => h.apart k hk (hbad.elim (fun e => by rw [e]; exact hbm) (fun e => hem k e))
  have hR : ∀ k ∈ M.enS.blk, ¬ (k = M.b ∨ k ∈ M.rcS.blk) := fun k hk hbad => hbad.elim (fun e => by rw [PM.mut, List.nodup_cons] at hnd; exact hnd.1 (by rw [← e]; simp [hk])) (fun e => hd.2 k hk e)
  have hbs : ∀ k ∈ s.blk, k ≠ M.b := fun k hk e => (hsm k hk).elim (fun h1 => hbe (by rw [← e]; exact h1)) (fun h1 => h1 (by rw [e]; simp [PM.foot, hbm]))
  have he := h.endsle
  have he1 := h.ends1
  refine ⟨{ h with
    row := ?_
    rc := ?_
    rcn := by simp [PM.withRec, hn, h.rcn]
    en := h.en.chg hcm hR
    mkO := h.mkO.chg hcm (fun k hk => hI k (by simp [PM.imm, hk]))
    maps := fun g hg => by rw [hcm.block g (blk_of_map (h.maps g hg)) (hI g (by simp [PM.imm, show g ∈ M.mbs from hg]))]; exact h.maps g hg
    nodup := ?_
    apart := ?_
    fresh := ?_
    txns := by simp [PM.withRec]; omega
    ends1 := by simp [PM.withRec]; omega
    endsle := fun e he' => by have := he e he'; simp [PM.withRec]; omega }, hcm.mono (fun k _ hk => hk.elim (fun e => by rw [e]; exact hbm) (fun e => hem k e)), ?_⟩
  · exact (h.row.chg hc hbe).set 2 (.slice s.a s.n s.c)
  · have e1 : (M.recs ++ [r]).flatMap PRec.row = M.recs.flatMap PRec.row ++ r.row := by simp
    show Own _ _ _ s ((M.recs ++ [r]).flatMap PRec.row)
    rw [e1]
    exact ho.chg (Chg.setCell w1 ⟨M.b, 2, none⟩ _) (fun k hk => hbs k hk)
  · rw [hmut']; rw [hmut] at hnd
    exact nodup_replace hnd (blk_le1 s) (fun k hk => (hsm k hk).imp id (fun h1 h2 => h1 (by simp only [PM.foot, List.mem_append]; left; rw [hmut]; exact h2)))
  · intro k hk hbad
    have hk' : k ∈ M.imm := hk
    rw [hmut'] at hbad
    simp only [List.mem_append] at hbad
    rcases hbad with hbad | hbad | hbad
    · exact h.apart k hk' (by rw [hmut]; simp only [List.mem_append]; exact Or.inl hbad)
    · rcases hsm k hbad with h1 | h1
      · exact h.apart k hk' (hem k h1)
      · exact h1 (by simp only [PM.foot, List.mem_append]; exact Or.inr hk')
    · exact h.apart k hk' (by rw [hmut]; simp only [List.mem_append]; exact Or.inr (Or.inr hbad))
  · intro x hx
    simp only [PM.withRec, List.mem_append, List.mem_singleton] at hx
    rcases hx with h1 | h1
    · exact h.fresh x h1
    · rw [h1]; exact hr
  · intro k hk
    simp only [PM.foot, List.mem_append] at hk ⊢
    rcases hk with hk | hk
    · rw [hmut'] at hk
      simp only [List.mem_append] at hk
      rcases hk with h1 | h1 | h1
      · left; left; rw [hmut]; simp only [List.mem_append]; exact Or.inl h1
      · rcases hb k h1 with h2 | h2
        · exact Or.inl (Or.inl (hem k h2))
        · exact Or.inr h2
      · left; left; rw [hmut]; simp only [List.mem_append]; exact Or.inr (Or.inr h1)
    · exact Or.inl (Or.inr hk)

end Go.Proofs.YtlheloogmgmjnaaGreat
