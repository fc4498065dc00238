import Derived.Test.YtlheloogmgmjnaaGreatRefSub
import Derived.Test.YtlheloogmgmjnaaGreatRefPut
import Derived.Test.YtlheloogmgmjnaaGreatGoWalk
import Derived.Test.YtlheloogmgmjnaaGreatStoreRow
import Derived.Test.YtlheloogmgmjnaaGreatOwnSet
namespace Go.Proofs.YtlheloogmgmjnaaGreat
open Go.RowKit

/-- A transaction's row lies in block g, made behind W, with all that it leads to. -/
structure Laid (W w : World) (g : Nat) (T : Tsk) : Prop where
  row : RowAt w g 171 T.row
  tsk : TskAt w T
  g0 : W.heap.size ≤ g
  gone0 : ∀ k ∈ T.goneS.blk, W.heap.size ≤ k ∧ k ≠ g
  imm0 : ∀ k ∈ T.didS.blk ++ (T.wsS.blk ++ T.saidS.blk), W.heap.size ≤ k ∧ k < w.heap.size ∧ k ∉ T.goneS.blk ∧ k ≠ g
  below : Below W.heap.size W w

theorem BoolsAt.below {w w' : World} {ao : Option Addr} {xs : List Bool} (h : BoolsAt w ao xs) (hb : Below w.heap.size w w') : BoolsAt w' ao xs := h.chg (Chg.of_below hb (fun _ => False)) (fun _ _ => id)

theorem mem_blk {s : Sl} {a : Addr} (h : s.a = some a) : a.block ∈ s.blk := by simp [Sl.blk, h]

theorem laid_of {W w3 w4 : World} {g gg lo hi : Nat} {t : Tx} {c : Crs} {h' : TH} {sd sw ss : Sl} (hTx : ∀ wx, Below W.heap.size W wx → TxAt wx h' t) (hchk : checkN t = 0) (hwl : c.ws.length = t.w.length) (hsl : c.said.length = t.w.length)
    (h1 : IntsAt w3 sd.a (nats c.did)) (n1 : sd.n = c.did.length) (h2 : SlotsAt w3 sw.a c.ws) (n2 : sw.n = c.ws.length) (h3 : BoolsAt w3 ss.a c.said) (n3 : ss.n = c.said.length)
    (hb : ∀ k ∈ sd.blk ++ (sw.blk ++ ss.blk), lo ≤ k ∧ k < hi) (hlo : W.heap.size ≤ lo) (hhi : hi ≤ w3.heap.size) (hg : g < lo ∨ hi ≤ g) (hgg : gg < lo ∨ hi ≤ gg) (hne : gg ≠ g) (hWg : W.heap.size ≤ g) (hWgg : W.heap.size ≤ gg)
    (hR : RowAt w3 gg 4 (bools (List.replicate t.w.length false))) (hC : Chg w3 w4 (· = g)) (hs : w4.heap.size = w3.heap.size)
    (hRow : RowAt w4 g 171 (Tsk.row ⟨t, c, false, List.replicate t.w.length false, h', sd, sw, ss, ⟨some ⟨gg, 0, none⟩, t.w.length, t.w.length⟩⟩)) (hB : Below W.heap.size W w3) :
    Laid W w4 g ⟨t, c, false, List.replicate t.w.length false, h', sd, sw, ss, ⟨some ⟨gg, 0, none⟩, t.w.length, t.w.length⟩⟩ := by
  have hB4 : Below W.heap.size W w4 := hB.trans (hC.belowB (fun k hk => by subst hk; exact hWg) hB.size)
  have w6 := (checkN_sound t hchk).2.2.1
  have hne' : ∀ k ∈ sd.blk ++ (sw.blk ++ ss.blk), k ≠ g := fun k hk => by have := hb k hk; omega
  refine ⟨hRow, ⟨hTx _ hB4, h1.chg hC (fun a e => hne' _ (by simp [mem_blk e])), n1, h2.chg hC (fun a e => hne' _ (by simp [mem_blk e])), n2, hwl, h3.chg hC (fun a e => hne' _ (by simp [mem_blk e])), n3, hsl, ?_, by simp, by simp, hchk⟩, hWg, ?_, ?_, hB4⟩
  · exact Own.of_row (hR.chg hC hne) (by simp [bools]) (by unfold maxLen; omega)
  · intro k hk; simp [Sl.blk] at hk; subst hk; exact ⟨hWgg, hne⟩
  · intro k hk
    have := hb k hk
    refine ⟨by omega, by omega, ?_, hne' k hk⟩
    simp [Sl.blk]; omega

/-- The store behind Submit's append. -/
theorem refAt_sub {w W X wr w0 w1 : World} {M : RM} {T : Tsk} {s : Sl} {hv : List Slot} {g gh cB : Nat} {sv : Value} (h : RefAt w M) (hBW : Below w.heap.size w W) (hLD : Laid W X g T) (hch : Chg X wr (· = gh)) (hgh : M.hvS.a = some ⟨gh, 0, none⟩)
    (hown : Own wr 172 2 M.hvS (slotCells hv)) (hvl : hv.length = 24) (hb0 : Below wr.heap.size wr w0) (hap : Own w1 171 10 s (M.tasks.flatMap Tsk.row ++ T.row)) (hn : s.n = M.tkS.n + 1)
    (hc1 : Chg w0 w1 (fun k => k ∈ M.tkS.blk)) (hbl : ∀ k ∈ s.blk, k ∈ M.tkS.blk ∨ k = w0.heap.size) (hblks : ∀ k ∈ T.h.blks, w.heap.size ≤ k ∧ k < cB) (hcB : cB < W.heap.size) (hlt : M.tasks.length < 150) (hsv : sv = .slice s.a s.n s.c) :
    RefAt (w1.setCell ⟨M.b, 3, none⟩ sv) (M.withTask T hv s) ∧ Chg w (w1.setCell ⟨M.b, 3, none⟩ sv) (fun k => k ∈ M.mut) ∧ (∀ k ∈ (M.withTask T hv s).foot, k ∈ M.foot ∨ w.heap.size ≤ k) := by
  subst hsv
  have hmut : M.mut = [M.b] ++ (M.tkS.blk ++ (M.hvS.blk ++ (M.enS.blk ++ (M.deS.blk ++ (M.haS.blk ++ (M.diS.blk ++ M.tasks.flatMap fun t => t.goneS.blk)))))) := by simp [RM.mut]
  have hlt' := h.mut_lt
  have hba := h.b_apart
  have hd2 := nodup_disj (A := [M.b] ++ M.tkS.blk) (E := M.hvS.blk) (B := M.enS.blk ++ (M.deS.blk ++ (M.haS.blk ++ (M.diS.blk ++ M.tasks.flatMap fun t => t.goneS.blk)))) (by have := h.nodup; rw [hmut] at this; simpa using this)
  have hghm : gh ∈ M.hvS.blk := by simp [Sl.blk, hgh]
  have hhv : ∀ k ∈ M.hvS.blk, k = gh := fun k hk => by simpa [Sl.blk, hgh] using hk
  have htm : ∀ k ∈ M.tkS.blk, k ∈ M.mut := fun k hk => by simp [RM.mut, hk]
  have hhm : ∀ k ∈ M.hvS.blk, k ∈ M.mut := fun k hk => by simp [RM.mut, hk]
  have hbm : M.b ∈ M.mut := by simp [RM.mut]
  have hwW := hBW.size
  have hWX := hLD.below.size
  have hXr := hch.size
  have hr0 := hb0.size
  have h01 := hc1.size
  have hg0 := hLD.g0
  have ghw := hlt' gh (hhm gh hghm)
  -- what turns from X on
  have hXF : Chg X (w1.setCell ⟨M.b, 3, none⟩ (.slice s.a s.n s.c)) (fun k => k = M.b ∨ k ∈ M.tkS.blk ∨ k ∈ M.hvS.blk) :=
    ((hch.mono (fun k _ hk => by subst hk; exact Or.inr (Or.inr hghm))).trans ((Chg.of_below hb0 _).trans (hc1.mono (fun k _ hk => Or.inr (Or.inl hk))))).put ⟨M.b, 3, none⟩ _ (Or.inl rfl)
  have hwF : Chg w (w1.setCell ⟨M.b, 3, none⟩ (.slice s.a s.n s.c)) (fun k => k = M.b ∨ k ∈ M.tkS.blk ∨ k ∈ M.hvS.blk) :=
    ((Chg.of_below (hBW.trans (hLD.below.mono hwW)) _)).trans hXF
  have hold : ∀ k, w.heap.size ≤ k → ¬ (k = M.b ∨ k ∈ M.tkS.blk ∨ k ∈ M.hvS.blk) := fun k hk hbad => by
    rcases hbad with e | e | e
    · have := hlt' M.b hbm; omega
    · have := hlt' k (htm k e); omega
    · have := hlt' k (hhm k e); omega
  have himm : ∀ k ∈ T.imm, w.heap.size ≤ k ∧ k < X.heap.size ∧ k ∉ T.goneS.blk := by
    intro k hk
    simp only [Tsk.imm] at hk
    have e : T.h.r.blk ++ (T.h.w.blk ++ (T.h.c.blk ++ (T.didS.blk ++ (T.wsS.blk ++ T.saidS.blk)))) = T.h.blks ++ (T.didS.blk ++ (T.wsS.blk ++ T.saidS.blk)) := by simp [TH.blks]
    rw [e] at hk
    rcases List.mem_append.1 hk with hk | hk
    · have := hblks k hk
      refine ⟨this.1, by omega, fun hbad => ?_⟩
      have := (hLD.gone0 k hbad).1; omega
    · have := hLD.imm0 k hk
      exact ⟨by omega, this.2.1, this.2.2.1⟩
  have hTg : ∀ k ∈ T.goneS.blk, w.heap.size ≤ k := fun k hk => by have := (hLD.gone0 k hk).1; omega
  have hTg2 : ∀ k ∈ T.goneS.blk, k < X.heap.size := hLD.tsk.gone.blk_lt
  have hsF : (w1.setCell ⟨M.b, 3, none⟩ (.slice s.a s.n s.c)).heap.size = w1.heap.size := size_setCell_eq _ _ _
  have hbs : ∀ k ∈ s.blk, k ≠ M.b := fun k hk e => by
    rcases hbl k hk with h1 | h1
    · exact hba k (by simp [h1]) e
    · have := hlt' M.b hbm; omega
  have hrw1 : RowAt w1 M.b 42 M.row := by
    have h0 : RowAt X M.b 42 M.row := (h.row.below' hBW).below' hLD.below
    have h1 := h0.chg hch (fun e => hba gh (by simp [hghm]) e.symm)
    exact (h1.below' hb0).chg hc1 (fun e => hba M.b (by simp [e]) rfl)
  refine refAt_withTask h hlt hvl (hLD.tsk.chg hXF (fun k hk => hold k (himm k hk).1) (fun k hk => hold k (hTg k hk))) hTg (fun k hk => ⟨(himm k hk).1, by have := (himm k hk).2.1; omega⟩) (fun k hk => (himm k hk).2.2) ?_ (hrw1.set 3 _) ?_ (by rw [hn, h.tkn]) ?_ hwF
  · intro k hk
    rcases hbl k hk with h1 | h1
    · exact Or.inl h1
    · right
      refine ⟨by omega, fun hbad => ?_, fun hbad => ?_⟩
      · have := hTg2 k hbad; omega
      · have := (himm k hbad).2.1; omega
  · have e : (M.tasks ++ [T]).flatMap Tsk.row = M.tasks.flatMap Tsk.row ++ T.row := by simp
    rw [e]
    exact hap.chg (Chg.setCell w1 ⟨M.b, 3, none⟩ _) (fun k hk => hbs k hk)
  · refine ((hown.below hb0).chg hc1 (fun k hk e => hd2.1 k (by simp [e]) hk)).chg (Chg.setCell w1 ⟨M.b, 3, none⟩ _) (fun k hk e => hd2.1 k (by simp [show k = M.b from e]) hk)

end Go.Proofs.YtlheloogmgmjnaaGreat
