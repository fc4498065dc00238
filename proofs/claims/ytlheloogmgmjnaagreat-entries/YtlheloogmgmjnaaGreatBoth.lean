import Derived.Test.YtlheloogmgmjnaaGreatProgNew
import Derived.Test.YtlheloogmgmjnaaGreatProgShow
import Derived.Test.YtlheloogmgmjnaaGreatRefShow
import Derived.Test.YtlheloogmgmjnaaGreatRefSubOk
namespace Go.Proofs.YtlheloogmgmjnaaGreat
open Go.RowKit

/-- The program's store and the document's say the same, ahead of all steps. -/
structure Alike (M : PM) (R : RM) : Prop where
  room : M.room = R.room
  taken : M.taken = R.used
  txns : M.recs.length = R.tasks.length
  ends : M.ends = R.ends
  still : ∀ t ∈ R.tasks, t.ended = false ∧ t.gone = List.replicate t.tx.w.length false
  dealt : ∀ d ∈ R.dealt, d = 0
  pos : ∀ e ∈ R.ends, 1 ≤ e

theorem Alike.closed {M : PM} {R : RM} (h : Alike M R) : M.closed = R.closed := by unfold PM.closed RM.closed; rw [h.ends]

theorem stay_false (n : Nat) : stay (List.replicate n false) = n := by
  unfold stay
  induction n with
  | zero => rfl
  | succ n ih => rw [List.replicate_succ, List.countP_cons, ih]; rfl

theorem RM.done_zero {R : RM} (h : ∀ t ∈ R.tasks, t.ended = false) : R.done = 0 := by
  unfold RM.done
  cases hq : R.tasks with
  | nil => rfl
  | cons t r =>
    have := h t (by rw [hq]; simp)
    simp [this]

theorem markOf_zero (l : List Nat) (h : ∀ e ∈ l, 1 ≤ e) : markOf 0 l = 0 := by
  unfold markOf
  have : ∀ (l : List Nat) (a : Nat), (∀ e ∈ l, 1 ≤ e) → List.foldl (fun m e => if e ≤ 0 then e else m) a l = a := by
    intro l
    induction l with
    | nil => intro a _; rfl
    | cons x r ih =>
      intro a hl
      have hx := hl x (by simp)
      rw [List.foldl_cons, if_neg (by omega)]
      exact ih a (fun e he => hl e (by simp [he]))
  exact this l 0 h

theorem Alike.state {M : PM} {R : RM} (h : Alike M R) (hp : 1 ≤ R.dealt.length) : R.state = stCells M.recs.length M.ends.length 0 0 0 M.taken 0 := by
  have hd : R.done = 0 := RM.done_zero (fun t ht => (h.still t ht).1)
  have hr : R.ready = 0 := by
    unfold RM.ready
    rw [List.countP_eq_zero]
    intro e he hbad
    rw [List.all_eq_true] at hbad
    have h0 : R.dealt[0] ∈ R.dealt := List.getElem_mem (by omega)
    have := hbad _ h0
    have h1 := h.dealt _ h0
    have h2 := h.pos e he
    simp at this
    omega
  have hm : R.mark = 0 := by unfold RM.mark; rw [hd]; exact markOf_zero _ h.pos
  have hl : R.live = 0 := by
    unfold RM.live
    have : ∀ key, R.liveOf key = 0 := by
      intro key
      unfold RM.liveOf
      have : R.dealt.getD (key % R.parts) 0 = 0 := by
        by_cases hk : key % R.parts < R.dealt.length
        · rw [nat_get hk]; exact h.dealt _ (List.getElem_mem hk)
        · simp [List.getD, List.getElem?_eq_none (show R.dealt.length ≤ key % R.parts by omega)]
      rw [this]; rfl
    rw [List.map_congr_left (fun k _ => this k)]
    rfl
  unfold RM.state stCells
  rw [hr, hd, hm, hl, h.txns, h.ends, h.taken]

/-- What Submit makes of the program's store. -/
def PSub (M : PM) (t : Tx) (M' : PM) : Prop :=
  (M.refusal t ≠ 0 → M' = M) ∧ (M.refusal t = 0 → ∃ (r : PRec) (s : Sl), (M.recs.length + 1 - M.closed = 6 → ∃ s2, M' = ((M.withTaken t.w.length).withRec r s).withEnd s2) ∧ (¬ M.recs.length + 1 - M.closed = 6 → M' = (M.withTaken t.w.length).withRec r s))
/-- What it makes of the document's. -/
def RSub (R : RM) (t : Tx) (z : Bool) (R' : RM) : Prop :=
  (z = false → R' = R) ∧ (z = true → ∃ (T : Tsk) (s : Sl) (hv : List Slot), T.tx = t ∧ T.ended = false ∧ T.gone = List.replicate t.w.length false ∧ (R.tasks.length + 1 - R.closed = 6 → ∃ s2, R' = (R.withTask T hv s).withEnd s2) ∧ (¬ R.tasks.length + 1 - R.closed = 6 → R' = R.withTask T hv s))

theorem used_withTask (R : RM) (T : Tsk) (hv : List Slot) (s : Sl) (n : Nat) (h : T.gone = List.replicate n false) : (R.withTask T hv s).used = R.used + n := by
  unfold RM.used RM.withTask
  simp [h, stay_false]

theorem alike_sub {M M' : PM} {R R' : RM} {t : Tx} {z : Bool} (h : Alike M R) (hz : z = true ↔ M.refusal t = 0) (hm : PSub M t M') (hr : RSub R t z R') : Alike M' R' := by
  by_cases h0 : M.refusal t = 0
  · obtain ⟨r, s, a6, a7⟩ := hm.2 h0
    obtain ⟨T, s', hv, e1, e2, e3, b6, b7⟩ := hr.2 (hz.2 h0)
    have hmid : Alike ((M.withTaken t.w.length).withRec r s) (R.withTask T hv s') := by
      refine ⟨h.room, ?_, ?_, h.ends, ?_, h.dealt, h.pos⟩
      · rw [used_withTask R T hv s' _ e3, ← h.taken]; rfl
      · simp [PM.withRec, PM.withTaken, RM.withTask, h.txns]
      · intro x hx
        simp only [RM.withTask, List.mem_append, List.mem_singleton] at hx
        rcases hx with hx | hx
        · exact h.still x hx
        · rw [hx]; exact ⟨e2, by rw [e3, e1]⟩
    by_cases h6 : M.recs.length + 1 - M.closed = 6
    · obtain ⟨s2, rfl⟩ := a6 h6
      obtain ⟨s3, rfl⟩ := b6 (by rw [← h.txns, ← h.closed]; exact h6)
      refine ⟨hmid.room, hmid.taken, hmid.txns, ?_, hmid.still, hmid.dealt, ?_⟩
      · simp [PM.withEnd, RM.withEnd, PM.withRec, PM.withTaken, RM.withTask, h.ends, h.txns]
      · intro e he
        simp only [RM.withEnd, RM.withTask, List.mem_append, List.mem_singleton] at he
        rcases he with he | he
        · exact h.pos e he
        · rw [he]; simp
    · rw [a7 h6, b7 (by rw [← h.txns, ← h.closed]; exact h6)]
      exact hmid
  · rw [hm.1 h0, hr.1 (by cases z with | false => rfl | true => exact absurd (hz.1 rfl) h0)]
    exact h

theorem alike_cut {M : PM} {R : RM} (h : Alike M R) (s s' : Sl) (hlt : M.closed < M.recs.length) : Alike (M.withEnd s) (R.withEnd s') := by
  refine ⟨h.room, h.taken, h.txns, ?_, h.still, h.dealt, ?_⟩
  · simp [PM.withEnd, RM.withEnd, h.ends, h.txns]
  · intro e he
    simp only [RM.withEnd, List.mem_append, List.mem_singleton] at he
    rcases he with he | he
    · exact h.pos e he
    · rw [he, ← h.txns]; omega

/-- Both stores lie in memory, apart, made behind w0; x: the pair. -/
structure Two (w0 w : World) (x : Nat) (M : PM) (R : RM) : Prop where
  pair : RowAt w x 29 [.pointer (some ⟨M.b, 0, none⟩), .pointer (some ⟨R.b, 0, none⟩)]
  p : PAt w M
  r : RefAt w R
  apart : ∀ k ∈ M.foot, k ∉ R.foot
  xm : x ∉ M.foot
  xr : x ∉ R.foot
  m0 : ∀ k ∈ M.foot, w0.heap.size ≤ k
  r0 : ∀ k ∈ R.foot, w0.heap.size ≤ k
  x0 : w0.heap.size ≤ x
  below : Below w0.heap.size w0 w

theorem RefAt.foot_lt {w : World} {R : RM} (h : RefAt w R) : ∀ k ∈ R.foot, k < w.heap.size := by
  intro k hk
  simp only [RM.foot, List.mem_append] at hk
  rcases hk with hk | hk
  · exact h.mut_lt k hk
  · exact h.immlt k hk

/-- Only other memory has turned. -/
theorem Two.chg {w0 w w' : World} {x : Nat} {M : PM} {R : RM} (h : Two w0 w x M R) {D : Nat → Prop} (hc : Chg w w' D) (hD : ∀ k, D k → w0.heap.size ≤ k ∧ k ≠ x ∧ k ∉ M.foot ∧ k ∉ R.foot) : Two w0 w' x M R := by
  have hs := h.below.size
  exact { h with
    pair := h.pair.chg hc (fun hd => (hD x hd).2.1 rfl)
    p := h.p.chg hc (fun k hk hd => (hD k hd).2.2.1 hk)
    r := h.r.chg hc (fun k hk hd => (hD k hd).2.2.2 (by simp [RM.foot, hk])) (fun k hk hd => (hD k hd).2.2.2 (by simp [RM.foot, hk]))
    below := h.below.trans (hc.belowB (fun k hk => (hD k hk).1) hs) }

theorem Two.on {w0 w w' : World} {x : Nat} {M : PM} {R : RM} (h : Two w0 w x M R) (hb : Below w.heap.size w w') : Two w0 w' x M R := h.chg (Chg.of_below hb (fun _ => False)) (fun _ hk => hk.elim)

/-- New blocks are none of theirs. -/
theorem Two.far {w0 w : World} {x : Nat} {M : PM} {R : RM} (h : Two w0 w x M R) {k : Nat} (hk : w.heap.size ≤ k) : w0.heap.size ≤ k ∧ k ≠ x ∧ k ∉ M.foot ∧ k ∉ R.foot :=
  ⟨Nat.le_trans h.below.size hk, by have := h.pair.lt; omega, fun hm => by have := h.p.foot_lt k hm; omega, fun hr => by have := h.r.foot_lt k hr; omega⟩

/-- The program's store has turned. -/
theorem Two.prog {w0 w w' : World} {x : Nat} {M M' : PM} {R : RM} (h : Two w0 w x M R) (hp : PAt w' M') (hb : M'.b = M.b) (hc : Chg w w' (fun k => k ∈ M.mut)) (hf : ∀ k ∈ M'.foot, k ∈ M.foot ∨ w.heap.size ≤ k) : Two w0 w' x M' R := by
  have hs := h.below.size
  have hmf : ∀ k ∈ M.mut, k ∈ M.foot := fun k hk => by simp [PM.foot, hk]
  refine ⟨by rw [hb]; exact h.pair.chg hc (fun hk => h.xm (hmf _ hk)), hp, h.r.chg hc (fun k hk hd => h.apart k (hmf k hd) (by simp [RM.foot, hk])) (fun k hk hd => h.apart k (hmf k hd) (by simp [RM.foot, hk])), ?_, ?_, h.xr, ?_, h.r0, h.x0, h.below.trans (hc.belowB (fun k hk => h.m0 k (hmf k hk)) hs)⟩
  · intro k hk hr
    rcases hf k hk with h1 | h1
    · exact h.apart k h1 hr
    · have := h.r.foot_lt k hr; omega
  · intro hk
    rcases hf x hk with h1 | h1
    · exact h.xm h1
    · have := h.pair.lt; omega
  · intro k hk
    rcases hf k hk with h1 | h1
    · exact h.m0 k h1
    · omega

/-- The document's store has turned. -/
theorem Two.ref {w0 w w' : World} {x : Nat} {M : PM} {R R' : RM} (h : Two w0 w x M R) (hr : RefAt w' R') (hb : R'.b = R.b) (hc : Chg w w' (fun k => k ∈ R.mut)) (hf : ∀ k ∈ R'.foot, k ∈ R.foot ∨ w.heap.size ≤ k) : Two w0 w' x M R' := by
  have hs := h.below.size
  have hmf : ∀ k ∈ R.mut, k ∈ R.foot := fun k hk => by simp [RM.foot, hk]
  refine ⟨by rw [hb]; exact h.pair.chg hc (fun hk => h.xr (hmf _ hk)), h.p.chg hc (fun k hk hd => h.apart k hk (hmf k hd)), hr, ?_, h.xm, ?_, h.m0, ?_, h.x0, h.below.trans (hc.belowB (fun k hk => h.r0 k (hmf k hk)) hs)⟩
  · intro k hk hr'
    rcases hf k hr' with h1 | h1
    · exact h.apart k hk h1
    · have := h.p.foot_lt k hk; omega
  · intro hk
    rcases hf x hk with h1 | h1
    · exact h.xr h1
    · have := h.pair.lt; omega
  · intro k hk
    rcases hf k hk with h1 | h1
    · exact h.r0 k h1
    · omega

end Go.Proofs.YtlheloogmgmjnaaGreat
