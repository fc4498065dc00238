import Derived.Test.YtlheloogmgmjnaaT26
import Derived.Test.YtlheloogmgmjnaaT13
namespace Go.Proofs.Ytlheloogmgmjnaa
open Go.RowKit

theorem insRow_oneCell (x : Ins) : ∀ u ∈ x.vals.toList, u.oneCell' = true := by
  intro u hu
  simp only [Ins.vals, List.mem_cons, List.not_mem_nil, or_false] at hu
  rcases hu with h | h | h | h <;> subst h <;> rfl

/-- How Spelt's variable stands. -/
structure SpAt (w wr : World) (r s c : Sl) (t : Tx) : Prop where
  row : RowAt wr (w.heap.size + 1) 25 [.slice r.a r.n r.c, .slice s.a s.n s.c, .slice c.a c.n c.c]
  cell : ∃ cs, RowAt wr w.heap.size 25 cs ∧ cs.length = 3
  rO : Own wr 3 1 r (ints t.r)
  wO : Own wr 3 1 s (ints t.w)
  cO : Own wr 51 4 c (insCells t.c)
  rn : r.n = t.r.length
  wn : s.n = t.w.length
  cn : c.n = t.c.length
  r6 : t.r.length ≤ 6
  w6 : t.w.length ≤ 6
  c30 : t.c.length ≤ 30
  rk : ∀ x ∈ t.r, 0 ≤ x ∧ x < 24
  wk : ∀ x ∈ t.w, 0 ≤ x ∧ x < 24
  rnd : t.r.Nodup
  wnd : t.w.Nodup
  snd : ∀ x ∈ t.c, soundB x t.r.length t.w.length = true
  rb : ∀ b ∈ r.blk, w.heap.size + 2 ≤ b
  wb : ∀ b ∈ s.blk, w.heap.size + 2 ≤ b
  cb : ∀ b ∈ c.blk, w.heap.size + 2 ≤ b
  cr : ∀ b ∈ c.blk, b ∉ r.blk ∧ b ∉ s.blk
  below : Below w.heap.size w wr

theorem SpAt.size {w wr : World} {r s c : Sl} {t : Tx} (h : SpAt w wr r s c t) : w.heap.size + 2 ≤ wr.heap.size := by have := h.row.lt; omega
theorem SpAt.on {w wr wx : World} {r s c : Sl} {t : Tx} (h : SpAt w wr r s c t) (hb : Below wr.heap.size wr wx) : SpAt w wx r s c t :=
  { h with
    row := h.row.below' hb
    cell := h.cell.imp fun _ q => ⟨q.1.below' hb, q.2⟩
    rO := h.rO.below hb
    wO := h.wO.below hb
    cO := h.cO.below hb
    below := below_on h.below hb }
/-- One of the variable's lists is another. -/
theorem sp_turn {w w1 : World} {D : Nat → Prop} {wr : World} {r s c : Sl} {t : Tx} (h : SpAt w wr r s c t) (hc : Chg wr w1 D) (hD : ∀ k, D k → w.heap.size + 2 ≤ k) (i : Nat) (v : Value) :
    RowAt (w1.setCell ⟨w.heap.size + 1, i, none⟩ v) (w.heap.size + 1) 25 (([.slice r.a r.n r.c, .slice s.a s.n s.c, .slice c.a c.n c.c] : List Value).set i v) ∧ (∃ cs, RowAt (w1.setCell ⟨w.heap.size + 1, i, none⟩ v) w.heap.size 25 cs ∧ cs.length = 3) ∧ Chg w1 (w1.setCell ⟨w.heap.size + 1, i, none⟩ v) (· = w.heap.size + 1) ∧ Below w.heap.size w (w1.setCell ⟨w.heap.size + 1, i, none⟩ v) := by
  have hset : Chg w1 (w1.setCell ⟨w.heap.size + 1, i, none⟩ v) (· = w.heap.size + 1) := Chg.setCell w1 ⟨w.heap.size + 1, i, none⟩ v
  refine ⟨(h.row.chg hc (fun q => by have := hD _ q; omega)).set i v, ?_, hset, ?_⟩
  · obtain ⟨cs, h1, h2⟩ := h.cell
    exact ⟨cs, (h1.chg hc (fun q => by have := hD _ q; omega)).chg hset (by omega), h2⟩
  · have b1 := h.below.trans (hc.belowB (fun k hk => by have := hD k hk; omega) h.below.size)
    exact b1.trans (hset.belowB (fun k hk => by omega) b1.size)
theorem sp_code {w wr : World} {r s c : Sl} {t : Tx} (h : SpAt w wr r s c t) {w1 : World} {c1 : Sl} {x : Ins} (hO : Own w1 51 4 c1 (insCells t.c ++ x.vals.toList)) (hn : c1.n = c.n + 1) (hc : Chg wr w1 (fun k => k ∈ c.blk)) (hb : ∀ k ∈ c1.blk, k ∈ c.blk ∨ wr.heap.size ≤ k) (hs : soundB x t.r.length t.w.length = true) (h30 : t.c.length < 30) :
    SpAt w (w1.setCell ⟨w.heap.size + 1, 2, none⟩ (.slice c1.a c1.n c1.c)) r s c1 ⟨t.r, t.w, t.c ++ [x]⟩ := by
  obtain ⟨q1, q2, q3, q4⟩ := sp_turn h hc (fun k hk => h.cb k hk) 2 (.slice c1.a c1.n c1.c)
  have hsz := h.size
  have hcb : ∀ k ∈ c1.blk, w.heap.size + 2 ≤ k := fun k hk => (hb k hk).elim (h.cb k) (fun q => by omega)
  have cO' := hO.chg q3 (fun k hk e => by have := hcb k hk; omega)
  exact
    { row := q1
      cell := q2
      rO := (h.rO.chg hc (fun k hk q => (h.cr k q).1 hk)).chg q3 (fun k hk e => by have := h.rb k hk; omega)
      wO := (h.wO.chg hc (fun k hk q => (h.cr k q).2 hk)).chg q3 (fun k hk e => by have := h.wb k hk; omega)
      cO := by
        have e : insCells (t.c ++ [x]) = insCells t.c ++ x.vals.toList := by simp [insCells, Ins.vals]
        show Own _ _ _ _ (insCells (t.c ++ [x]))
        rw [e]; exact cO'
      rn := h.rn
      wn := h.wn
      cn := by show c1.n = (t.c ++ [x]).length; rw [hn, h.cn]; simp
      r6 := h.r6
      w6 := h.w6
      c30 := by show (t.c ++ [x]).length ≤ 30; simp; omega
      rk := h.rk
      wk := h.wk
      rnd := h.rnd
      wnd := h.wnd
      snd := fun y hy => by
        rcases List.mem_append.1 (show y ∈ t.c ++ [x] from hy) with hy | hy
        · exact h.snd y hy
        · rw [List.mem_singleton.1 hy]; exact hs
      rb := h.rb
      wb := h.wb
      cb := hcb
      cr := fun k hk => (hb k hk).elim (h.cr k) (fun q => ⟨fun z => by have := h.rO.blk_lt k z; omega, fun z => by have := h.wO.blk_lt k z; omega⟩)
      below := q4 }
theorem sp_reads {w wr : World} (h : SpAt w wr Sl.nil Sl.nil Sl.nil ⟨[], [], []⟩) {w1 : World} {s1 : Sl} {ks : List Int} (hO : Own w1 3 1 s1 (ints ks)) (hn : s1.n = ks.length) (h6 : ks.length ≤ 6) (hk : ∀ x ∈ ks, 0 ≤ x ∧ x < 24) (hnd : ks.Nodup) (hb : Below wr.heap.size wr w1) (hnew : ∀ b ∈ s1.blk, wr.heap.size ≤ b) :
    SpAt w (w1.setCell ⟨w.heap.size + 1, 0, none⟩ (.slice s1.a s1.n s1.c)) s1 Sl.nil Sl.nil ⟨ks, [], []⟩ := by
  obtain ⟨q1, q2, q3, q4⟩ := sp_turn h (Chg.of_below hb (fun _ => False)) (fun _ q => q.elim) 0 (.slice s1.a s1.n s1.c)
  have hsz := h.size
  exact
    { row := q1, cell := q2
      rO := hO.chg q3 (fun k hk e => by have := hnew k hk; omega)
      wO := Own.nil _ _ _, cO := Own.nil _ _ _
      rn := hn, wn := rfl, cn := rfl, r6 := h6, w6 := by simp, c30 := by simp
      rk := hk, wk := by simp, rnd := hnd, wnd := by simp, snd := by simp
      rb := fun b hb => by have := hnew b hb; omega
      wb := by simp [Sl.nil, Sl.blk], cb := by simp [Sl.nil, Sl.blk], cr := by simp [Sl.nil, Sl.blk]
      below := q4 }
theorem sp_writes {w wr : World} {r : Sl} {R : List Int} (h : SpAt w wr r Sl.nil Sl.nil ⟨R, [], []⟩) {w1 : World} {s1 : Sl} {ks : List Int} (hO : Own w1 3 1 s1 (ints ks)) (hn : s1.n = ks.length) (h6 : ks.length ≤ 6) (hk : ∀ x ∈ ks, 0 ≤ x ∧ x < 24) (hnd : ks.Nodup) (hb : Below wr.heap.size wr w1) (hnew : ∀ b ∈ s1.blk, wr.heap.size ≤ b) :
    SpAt w (w1.setCell ⟨w.heap.size + 1, 1, none⟩ (.slice s1.a s1.n s1.c)) r s1 Sl.nil ⟨R, ks, []⟩ := by
  obtain ⟨q1, q2, q3, q4⟩ := sp_turn h (Chg.of_below hb (fun _ => False)) (fun _ q => q.elim) 1 (.slice s1.a s1.n s1.c)
  have hsz := h.size
  exact
    { row := q1, cell := q2
      rO := (h.rO.below hb).chg q3 (fun k hk e => by have := h.rb k hk; omega)
      wO := hO.chg q3 (fun k hk e => by have := hnew k hk; omega)
      cO := Own.nil _ _ _
      rn := h.rn, wn := hn, cn := rfl, r6 := h.r6, w6 := h6, c30 := by simp
      rk := h.rk, wk := hk, rnd := h.rnd, wnd := hnd, snd := by simp
      rb := h.rb
      wb := fun b hb => by have := hnew b hb; omega
      cb := by simp [Sl.nil, Sl.blk], cr := by simp [Sl.nil, Sl.blk]
      below := q4 }
theorem twiceTo_nodup {xs : List Int} (h : xs.Nodup) : twiceTo xs xs.length = false := by
  unfold twiceTo
  rw [List.any_eq_false]
  intro i hi
  rw [List.mem_range] at hi
  simp only [Bool.not_eq_true, List.any_eq_false]
  intro z hz
  rw [beq_eq_false_iff_ne]
  intro e'
  obtain ⟨q, hq, hqe⟩ := List.mem_take_iff_getElem.1 hz
  rw [List.getD, List.getElem?_eq_getElem hi] at e'
  have := List.pairwise_iff_getElem.1 h q i (by omega) hi (by omega)
  exact this (by rw [hqe, e']; rfl)
theorem SpAt.chk {w wr : World} {r s c : Sl} {t : Tx} (h : SpAt w wr r s c t) : checkN t = 0 := by
  have h1 : longB t = false := by
    have := h.r6; have := h.w6; have := h.c30
    simp [longB]; omega
  have hk : ∀ l : List Int, (∀ x ∈ l, 0 ≤ x ∧ x < 24) → (l.any fun n => !bel n 24) = false := by
    intro l hl
    rw [List.any_eq_false]
    intro x hx
    have := hl x hx
    simp [bel]; omega
  have h5 : unsoundB t = false := by
    unfold unsoundB
    rw [List.any_eq_false]
    intro x hx
    simp [h.snd x hx]
  unfold checkN
  rw [h1, hk _ h.rk, hk _ h.wk, twiceTo_nodup h.rnd, twiceTo_nodup h.wnd, h5]
  rfl

theorem sp_end {w wr wf : World} {r s c : Sl} {t : Tx} (h : SpAt w wr r s c t) (hc : Chg wr wf (· = w.heap.size)) : OwnTx wf ⟨r, s, c⟩ t ∧ checkN t = 0 ∧ (∀ k ∈ TH.blks ⟨r, s, c⟩, w.heap.size ≤ k) ∧ Below w.heap.size w wf := by
  refine ⟨⟨h.rO.chg hc (fun k hk e => by have := h.rb k hk; omega), h.wO.chg hc (fun k hk e => by have := h.wb k hk; omega), h.cO.chg hc (fun k hk e => by have := h.cb k hk; omega), h.rn, h.wn, h.cn⟩, h.chk, ?_, ?_⟩
  · intro k hk
    simp only [TH.blks, List.mem_append] at hk
    rcases hk with q | q | q
    · have := h.rb k q; omega
    · have := h.wb k q; omega
    · have := h.cb k q; omega
  · exact h.below.trans (hc.belowB (fun k hk => by omega) h.below.size)
theorem chg_three {w : World} {g : Nat} {x y z : Value} : Chg w (((w.setCell ⟨g, 0, none⟩ x).setCell ⟨g, 1, none⟩ y).setCell ⟨g, 2, none⟩ z) (· = g) :=
  ((Chg.setCell w ⟨g, 0, none⟩ x).trans (Chg.setCell _ ⟨g, 1, none⟩ y)).trans (Chg.setCell _ ⟨g, 2, none⟩ z)
theorem SpAt.cells {w wr : World} {r s c : Sl} {t : Tx} (h : SpAt w wr r s c t) : ∃ v0 v1 v2, wr.cell? ⟨w.heap.size, 0, none⟩ = some v0 ∧ wr.cell? ⟨w.heap.size, 1, none⟩ = some v1 ∧ wr.cell? ⟨w.heap.size, 2, none⟩ = some v2 ∧ ∀ i, wr.frozen? ⟨w.heap.size, i, none⟩ = false := by
  obtain ⟨cs, h1, h2⟩ := h.cell
  match cs, h2 with
  | [a, b, d], _ => exact ⟨a, b, d, h1.cell' (i := 0) rfl, h1.cell' (i := 1) rfl, h1.cell' (i := 2) rfl, h1.frozen⟩
theorem SpAt.fin {w wr : World} {r s c : Sl} {t : Tx} (h : SpAt w wr r s c t) (x y z : Value) : ∀ wf, wf = ((wr.setCell ⟨w.heap.size, 0, none⟩ x).setCell ⟨w.heap.size, 1, none⟩ y).setCell ⟨w.heap.size, 2, none⟩ z → wf.cell? ⟨w.heap.size, 0, none⟩ = some x ∧ wf.cell? ⟨w.heap.size, 1, none⟩ = some y ∧ wf.cell? ⟨w.heap.size, 2, none⟩ = some z := by
  rintro wf rfl
  obtain ⟨cs, h1, h2⟩ := h.cell
  match cs, h2 with
  | [a, b, d], _ =>
    have q := ((h1.set 0 x).set 1 y).set 2 z
    exact ⟨q.cell' (i := 0) rfl, q.cell' (i := 1) rfl, q.cell' (i := 2) rfl⟩
def sp0 (w : World) : World := (w.alloc (.cells #[.slice none 0 0, .slice none 0 0, .slice none 0 0] 25)).alloc (.cells #[.slice none 0 0, .slice none 0 0, .slice none 0 0] 25)
theorem sp_new (w : World) : SpAt w (sp0 w) Sl.nil Sl.nil Sl.nil ⟨[], [], []⟩ := by
  have Z0 := rowAt_alloc w [.slice none 0 0, .slice none 0 0, .slice none 0 0] 25
  have B0 := below_alloc1 w (.cells #[.slice none 0 0, .slice none 0 0, .slice none 0 0] 25)
  have Z1 := rowAt_alloc (w.alloc (.cells #[.slice none 0 0, .slice none 0 0, .slice none 0 0] 25)) [.slice none 0 0, .slice none 0 0, .slice none 0 0] 25
  have B1 := below_alloc1 (w.alloc (.cells #[.slice none 0 0, .slice none 0 0, .slice none 0 0] 25)) (.cells #[.slice none 0 0, .slice none 0 0, .slice none 0 0] 25)
  have e1 : (w.alloc (.cells #[.slice none 0 0, .slice none 0 0, .slice none 0 0] 25)).heap.size = w.heap.size + 1 := by simp
  exact
    { row := by have := Z1; rw [e1] at this; exact this
      cell := ⟨_, Z0.below' B1, rfl⟩
      rO := Own.nil _ _ _, wO := Own.nil _ _ _, cO := Own.nil _ _ _, rn := rfl, wn := rfl, cn := rfl, r6 := by simp, w6 := by simp, c30 := by simp
      rk := by simp, wk := by simp, rnd := by simp, wnd := by simp, snd := by simp
      rb := by simp [Sl.nil, Sl.blk], wb := by simp [Sl.nil, Sl.blk], cb := by simp [Sl.nil, Sl.blk], cr := by simp [Sl.nil, Sl.blk]
      below := below_on B0 B1 }

/-- What Spelt leaves. -/
def SpPost (w : World) (e : Ending) (w' : World) : Prop := ∃ (h : TH) (t : Tx), e = .returned (.agg h.cells) ∧ OwnTx w' h t ∧ checkN t = 0 ∧ (∀ k ∈ h.blks, w.heap.size ≤ k) ∧ Below w.heap.size w w'

set_option maxHeartbeats 4000000 in
set_option maxRecDepth 100000 in
theorem Spelt_0 (ao : Option Addr) (cap : Nat) (w : World) : Calls Try.prog 23 #[.slice ao 0 cap] w (SpPost w) := by
  have SP := hide (sp_new w)
  go_enter Try.func23, Try.ntmps23
  go_wp2
  go_loopw [4] (fun iv wr => iv = .int .i64 2 ∧ wr = sp0 w) (fun _ _ => 0)
  case atStart => exact ⟨rfl, rfl⟩
  case round =>
    obtain ⟨rfl, rfl⟩ := hrel
    have x0 := SP.out.row.cell' (i := 0) rfl
    have x1 := SP.out.row.cell' (i := 1) rfl
    have x2 := SP.out.row.cell' (i := 2) rfl
    obtain ⟨v0, v1, v2, y0, y1, y2, yf⟩ := SP.out.cells
    go_wp2
    obtain ⟨z0, z1, z2⟩ := SP.out.fin (.slice Sl.nil.a Sl.nil.n Sl.nil.c) (.slice Sl.nil.a Sl.nil.n Sl.nil.c) (.slice Sl.nil.a Sl.nil.n Sl.nil.c) _ rfl
    exact bodyPost_ret (v := .agg (TH.cells ⟨Sl.nil, Sl.nil, Sl.nil⟩)) (by simp [results, Try.results23, go_sem, z0, z1, z2, TH.cells]) rfl ⟨⟨Sl.nil, Sl.nil, Sl.nil⟩, ⟨[], [], []⟩, rfl, sp_end SP.out chg_three⟩

set_option maxHeartbeats 4000000 in
set_option maxRecDepth 100000 in
theorem Spelt_1 (b o cap : Nat) (a : Int) (w : World) (ha : inI64 a) (hx : w.cell? ⟨b, o, none⟩ = some (.int .i64 a)) : Calls Try.prog 23 #[.slice (some ⟨b, o, none⟩) 1 cap] w (SpPost w) := by
  have SP := hide (sp_new w)
  have KA := hide (keysOf_any a ha)
  have hx0 : (sp0 w).cell? ⟨b, o, none⟩ = some (.int .i64 a) := cell_below SP.out.below (Nat.le_refl _) hx
  unfold sp0 at hx0
  clear ha
  go_enter Try.func23, Try.ntmps23
  go_wp2_with (go_at_call 43; refine (KA.out _).mono ?_; rintro e w1 ⟨s1, ks1, rfl, hO, hn, h6, hk, hnd, hb, hnew⟩; have S1 := hide (SP.out.on hb); have t1 := S1.out.row.cell' (i := 0) rfl; have f1 := S1.out.row.frozen 0; have S2 := hide (sp_reads SP.out hO hn h6 hk hnd hb hnew); clear hO hn h6 hk hnd hb hnew)
  go_loopw [4] (fun iv wr => iv = .int .i64 2 ∧ wr = w1.setCell ⟨w.heap.size + 1, 0, none⟩ (.slice s1.a s1.n s1.c)) (fun _ _ => 0)
  case atStart => exact ⟨rfl, rfl⟩
  case round =>
    obtain ⟨rfl, rfl⟩ := hrel
    have x0 := S2.out.row.cell' (i := 0) rfl
    have x1 := S2.out.row.cell' (i := 1) rfl
    have x2 := S2.out.row.cell' (i := 2) rfl
    obtain ⟨v0, v1, v2, y0, y1, y2, yf⟩ := S2.out.cells
    go_wp2
    obtain ⟨z0, z1, z2⟩ := S2.out.fin (.slice s1.a s1.n s1.c) (.slice Sl.nil.a Sl.nil.n Sl.nil.c) (.slice Sl.nil.a Sl.nil.n Sl.nil.c) _ rfl
    exact bodyPost_ret (v := .agg (TH.cells ⟨s1, Sl.nil, Sl.nil⟩)) (by simp [results, Try.results23, go_sem, z0, z1, z2, TH.cells]) rfl ⟨⟨s1, Sl.nil, Sl.nil⟩, ⟨ks1, [], []⟩, rfl, sp_end S2.out chg_three⟩

set_option maxHeartbeats 8000000 in
set_option maxRecDepth 100000 in
theorem Spelt_2 (b o cap : Nat) (xs : List Int) (w : World) (hx : ∀ i, i < xs.length → w.cell? ⟨b, o + i, none⟩ = some (.int .i64 (xs.getD i 0))) (hr : ∀ x ∈ xs, inI64 x) (h2 : 2 ≤ xs.length) (hlen : xs.length ≤ 9223372036854775807) : Calls Try.prog 23 #[.slice (some ⟨b, o, none⟩) xs.length cap] w (SpPost w) := by
  obtain ⟨i0, hi, hz0, hz1, hz2⟩ := info_parts Try.info51
  have SP := hide (sp_new w)
  have HR := hide (fun i (hi : i < xs.length) => show inI64 (xs.getD i 0) by rw [List.getD, List.getElem?_eq_getElem hi]; exact hr _ (List.getElem_mem hi))
  obtain ⟨a0, ha0⟩ : ∃ a, xs.getD 0 0 = a := ⟨_, rfl⟩
  obtain ⟨a1, ha1⟩ : ∃ a, xs.getD 1 0 = a := ⟨_, rfl⟩
  have HA1 := hide ha1
  have KA := hide (keysOf_any a0 (by rw [← ha0]; exact HR.out 0 (by omega)))
  have KB := hide (keysOf_any a1 (by rw [← ha1]; exact HR.out 1 (by omega)))
  have HX := hide (fun wx (hb : Below w.heap.size w wx) i (hi : i < xs.length) => cell_below hb (Nat.le_refl _) (hx i hi))
  have hx0 := HX.out (sp0 w) SP.out.below 0 (by omega)
  rw [Nat.add_zero, ha0] at hx0
  unfold sp0 at hx0
  clear ha0 ha1
  have hbn : ¬ b = w.heap.size + 1 := by have := lt_of_cell (hx 0 (by omega)); omega
  have hn0 : (0 : Int) < xs.length := by omega
  have hn1 : (1 : Int) < xs.length := by omega
  have hm0 : (0 : Nat) < xs.length := by omega
  have hm1 : (1 : Nat) < xs.length := by omega
  clear hx hr
  go_enter Try.func23, Try.ntmps23
  go_wp2_with fail
  refine (KA.out _).mono ?_; rintro e w1 ⟨s1, ks1, rfl, hO, hn, h6, hk, hnd, hb, hnew⟩; have S1 := hide (SP.out.on hb); have t1 := S1.out.row.cell' (i := 0) rfl; have f1 := S1.out.row.frozen 0; have S2 := hide (sp_reads SP.out hO hn h6 hk hnd hb hnew); clear hO hn h6 hk hnd hb hnew; have hx1 := HX.out _ S1.out.below 1 hm1; rw [HA1.out] at hx1
  go_wp2_with fail
  refine (KB.out _).mono ?_; rintro e w3 ⟨s2, ks2, rfl, hO, hn, h6, hk, hnd, hb, hnew⟩; have S3 := hide (S2.out.on hb); have t3 := S3.out.row.cell' (i := 1) rfl; have f3 := S3.out.row.frozen 1; have S4 := hide (sp_writes S2.out hO hn h6 hk hnd hb hnew); clear hO hn h6 hk hnd hb hnew
  go_wp2_with fail
  go_loopw [4] (fun iv wr => ∃ (i : Nat) (r s c : Sl) (t : Tx), i ≤ xs.length ∧ iv = .int .i64 i ∧ SpAt w wr r s c t) (fun iv _ => xs.length - (intOf iv).toNat)
  case atStart => exact ⟨2, s1, s2, Sl.nil, ⟨ks1, ks2, []⟩, h2, rfl, S4.out⟩
  case round =>
    obtain ⟨i, r, s, c, t, hi5, rfl, hsp⟩ := hrel
    have SQ := hide hsp
    clear hsp
    by_cases hil : i < xs.length
    · by_cases h30 : t.c.length < 30
      · have hil' : (i : Int) < xs.length := by omega
        have h30' : (c.n : Int) < 30 := by rw [SQ.out.cn]; omega
        have hwi : IntKind.i64.wrap ((i : Int) + 1) = ((i + 1 : Nat) : Int) := by rw [IntKind.wrap_i64]; omega
        have x2 := SQ.out.row.cell' (i := 2) rfl
        obtain ⟨ai, hai⟩ : ∃ a, xs.getD i 0 = a := ⟨_, rfl⟩
        have HAI := hide hai
        have PK := hide (pick_any ai 1099511627776 (by rw [← hai]; exact HR.out i hil) (by omega))
        have hvl := pickN_lt ai (n := 1099511627776) (by omega)
        generalize pickN ai 1099511627776 = v at *
        clear hai
        have IN := hide (instr_any v r.n s.n hvl (by rw [SQ.out.rn]; exact SQ.out.r6) (by rw [SQ.out.wn]; exact SQ.out.w6))
        generalize instrN v r.n s.n = x at *
        have KL : Hid (∀ w', Below wr.heap.size wr w' → w'.cell? ⟨b, o + i, none⟩ = some (.int .i64 ai) ∧ w'.cell? ⟨w.heap.size + 1, 0, none⟩ = some (.slice r.a r.n r.c) ∧ w'.cell? ⟨w.heap.size + 1, 1, none⟩ = some (.slice s.a s.n s.c)) := hide (fun w' hb => ⟨by rw [← HAI.out]; exact HX.out _ (SQ.out.on hb).below i hil, (SQ.out.on hb).row.cell' (i := 0) rfl, (SQ.out.on hb).row.cell' (i := 1) rfl⟩)
        go_wp2_with fail
        refine wp_region_held_drew (S := (fun w' => w'.cell? ⟨b, o + i, none⟩ = some (.int .i64 ai) ∧ w'.cell? ⟨w.heap.size + 1, 0, none⟩ = some (.slice r.a r.n r.c) ∧ w'.cell? ⟨w.heap.size + 1, 1, none⟩ = some (.slice s.a s.n s.c))) (by kernel_rfl) (KL.out _ (Below.refl _ _).drew) (fun hHeld => ?_)
        have D0 : Hid (Below wr.heap.size wr wr.drew) := hide (Below.refl _ _).drew
        refine wpAnyH_take (i := 0) (v := ?_) rfl (by kernel_rfl) (by kernel_rfl) (by kernel_rfl) (fun _ _ _ h => h) (Or.inl ⟨by rfl, ?_⟩) (by assumption) ?_
        rotate_left
        · intro w hSw; (try dsimp only at hSw); (go_simp <;> with_reducible rfl)
        try simp only [List.getElem_toArray, List.getElem_cons_zero, Act.put, List.setIfInBounds_toArray, List.set_cons_zero, List.set_cons_succ]
        refine wpAnyH_take (i := 1) (v := ?_) rfl (by kernel_rfl) (by kernel_rfl) (by kernel_rfl) (fun _ _ _ h => h) (Or.inl ⟨by rfl, ?_⟩) (by assumption) ?_
        rotate_left
        · intro w hSw; (try dsimp only at hSw); (go_simp <;> with_reducible rfl)
        try simp only [List.getElem_toArray, List.getElem_cons_zero, List.getElem_cons_succ, Act.put, List.setIfInBounds_toArray, List.set_cons_zero, List.set_cons_succ]
        refine wpAnyH_take (i := 2) (v := ?_) rfl (by kernel_rfl) (by kernel_rfl) (by kernel_rfl) (fun _ _ _ h => h) (Or.inl ⟨by rfl, ?_⟩) (by assumption) ?_
        rotate_left
        · intro w hSw; (try dsimp only at hSw); (go_simp <;> with_reducible rfl)
        try simp only [List.getElem_toArray, List.getElem_cons_zero, List.getElem_cons_succ, Act.put, List.setIfInBounds_toArray, List.set_cons_zero, List.set_cons_succ]
        refine wpAnyH_take (i := 3) (v := ?_) rfl (by kernel_rfl) (by kernel_rfl) (by kernel_rfl) (fun _ _ _ h => h) (Or.inl ⟨by rfl, ?_⟩) (by assumption) ?_
        rotate_left
        · intro w hSw; (try dsimp only at hSw); (go_simp <;> with_reducible rfl)
        try simp only [List.getElem_toArray, List.getElem_cons_zero, List.getElem_cons_succ, Act.put, List.setIfInBounds_toArray, List.set_cons_zero, List.set_cons_succ]
        refine wpAnyH_take (i := 5) (v := ?_) rfl (by kernel_rfl) (by kernel_rfl) (by kernel_rfl) (fun _ _ _ h => h) (Or.inl ⟨by rfl, ?_⟩) (by assumption) ?_
        rotate_left
        · intro w hSw; (try dsimp only at hSw); (go_simp <;> with_reducible rfl)
        try simp only [List.getElem_toArray, List.getElem_cons_zero, List.getElem_cons_succ, Act.put, List.setIfInBounds_toArray, List.set_cons_zero, List.set_cons_succ]
        refine wpAnyH_take (i := 6) (v := ?_) rfl (by kernel_rfl) (by kernel_rfl) (by kernel_rfl) (fun _ _ _ h => h) (Or.inl ⟨by rfl, ?_⟩) (by assumption) ?_
        rotate_left
        · intro w hSw; (try dsimp only at hSw); (go_simp <;> with_reducible rfl)
        try simp only [List.getElem_toArray, List.getElem_cons_zero, List.getElem_cons_succ, Act.put, List.setIfInBounds_toArray, List.set_cons_zero, List.set_cons_succ]
        refine wpAnyH_take (i := 7) (v := ?_) rfl (by kernel_rfl) (by kernel_rfl) (by kernel_rfl) (fun _ _ _ h => h) (Or.inl ⟨by rfl, ?_⟩) (by assumption) ?_
        rotate_left
        · intro w hSw; (try dsimp only at hSw); (go_simp <;> with_reducible rfl)
        try simp only [List.getElem_toArray, List.getElem_cons_zero, List.getElem_cons_succ, Act.put, List.setIfInBounds_toArray, List.set_cons_zero, List.set_cons_succ]
        refine wpAnyH_take (i := 8) (v := ?_) rfl (by kernel_rfl) (by kernel_rfl) (by kernel_rfl) (fun _ _ _ h => h) (Or.inl ⟨by rfl, ?_⟩) (by assumption) ?_
        rotate_left
        · intro w hSw; (try dsimp only at hSw); (go_simp <;> with_reducible rfl)
        try simp only [List.getElem_toArray, List.getElem_cons_zero, List.getElem_cons_succ, Act.put, List.setIfInBounds_toArray, List.set_cons_zero, List.set_cons_succ]
        refine wpAnyH_take (i := 9) (v := ?_) rfl (by kernel_rfl) (by kernel_rfl) (by kernel_rfl) (fun _ _ _ h => h) (Or.inl ⟨by rfl, ?_⟩) (by assumption) ?_
        rotate_left
        · intro w hSw; (try dsimp only at hSw); (go_simp <;> with_reducible rfl)
        try simp only [List.getElem_toArray, List.getElem_cons_zero, List.getElem_cons_succ, Act.put, List.setIfInBounds_toArray, List.set_cons_zero, List.set_cons_succ]
        refine wpAnyH_take (i := 10) (v := ?_) rfl (by kernel_rfl) (by kernel_rfl) (by kernel_rfl) (fun _ _ _ h => h) (Or.inl ⟨by rfl, ?_⟩) (by assumption) ?_
        rotate_left
        · intro w hSw; (try dsimp only at hSw); (go_simp <;> with_reducible rfl)
        try simp only [List.getElem_toArray, List.getElem_cons_zero, List.getElem_cons_succ, Act.put, List.setIfInBounds_toArray, List.set_cons_zero, List.set_cons_succ]
        refine wpAnyH_ready (rs := [4, 12]) (by kernel_rfl) (by simp) ?_
        refine AllReadyH.cons rfl (fun K hK => ?_) (AllReadyH.cons rfl (fun K hK => ?_) AllReadyH.nil)
        · skip
          rw [if_pos (by rfl)]
          simp only [List.getElem_toArray, List.getElem_cons_zero, List.getElem_cons_succ]
          go_simp
          refine (PK.out _).mono ?_
          rintro e v1 ⟨rfl, hv1⟩
          rw [hv1]; clear hv1
          refine hK.out _ _ (KL.out _ D0.out) (fun hHeld => ?_)
          clear hK K
          try simp only [List.getElem_toArray, List.getElem_cons_zero, List.getElem_cons_succ, Act.put, List.setIfInBounds_toArray, List.set_cons_zero, List.set_cons_succ]
          refine wpAnyH_ready (rs := [11, 12]) (by kernel_rfl) (by simp) ?_
          refine AllReadyH.cons rfl (fun K hK => ?_) (AllReadyH.cons rfl (fun K hK => ?_) AllReadyH.nil)
          · skip
            rw [if_pos (by rfl)]
            simp only [List.getElem_toArray, List.getElem_cons_zero, List.getElem_cons_succ]
            go_simp
            refine (IN.out _).mono ?_
            rintro e v2 ⟨rfl, hsd, hb⟩
            have E2 := hide hb; have SD := hide hsd; have D1 := hide (below_on D0.out hb); clear hb hsd
            refine hK.out _ _ (KL.out _ D1.out) (fun hHeld => ?_)
            clear hK K
            try simp only [List.getElem_toArray, List.getElem_cons_zero, List.getElem_cons_succ, Act.put, List.setIfInBounds_toArray, List.set_cons_zero, List.set_cons_succ]
            refine wpAnyH_ready (rs := [12]) (by kernel_rfl) (by simp) ?_
            refine AllReadyH.cons rfl (fun K hK => ?_) AllReadyH.nil
            rw [if_pos (by rfl)]
            simp only [List.getElem_toArray, List.getElem_cons_zero, List.getElem_cons_succ]
            refine wp_alloc_let 51 rfl (.agg #[.int .i64 0, .int .i64 0, .int .i64 0, .int .i64 0]) [.int .i64 0, .int .i64 0, .int .i64 0, .int .i64 0] (by kernel_rfl) rfl ?_
            intro u1 gx hgx ru bu zu
            have RU := hide ru; have D2 := hide (below_on D1.out bu); have GX := hide (show wr.heap.size ≤ gx from by rw [hgx]; exact D1.out.size); clear ru zu hgx bu
            refine hK.out _ _ (KL.out _ D2.out) (fun hHeld => ?_)
            clear hK K
            try simp only [Act.put, List.setIfInBounds_toArray, List.set_cons_zero, List.set_cons_succ]
            refine wpAnyH_ready (rs := [13]) (by kernel_rfl) (by simp) ?_
            refine AllReadyH.cons rfl (fun K hK => ?_) AllReadyH.nil
            rw [if_pos (by rfl)]
            simp only [List.getElem_toArray, List.getElem_cons_zero, List.getElem_cons_succ]
            refine wp_store_row 51 (.tmp 5) (.tmp 45) rfl gx rfl [.int .i64 x.op, .int .i64 x.a, .int .i64 x.b, .int .i64 x.c] [.int .i64 0, .int .i64 0, .int .i64 0, .int .i64 0] 51 RU.out rfl rfl (by kernel_rfl) (insRow_oneCell x) ?_
            intro w5 r5 c5 z5
            have B5 := hide (show Below wr.heap.size wr w5 from D2.out.trans (c5.belowB (fun k hk => by rw [hk]; exact GX.out) D2.out.size))
            have R5 := hide r5; clear r5 c5 z5
            refine hK.out _ _ (KL.out _ B5.out) (fun hHeld => ?_)
            clear hK K
            try simp only [Act.put]
            refine wpAnyH_done (by kernel_rfl) ?_ _
            try simp only [Act.put]
            clear hHeld KL
            have S5 := hide (SQ.out.on B5.out)
            have t2 := S5.out.row.cell' (i := 2) rfl
            have x0 := R5.out.cell' (i := 0) rfl
            have x1 := R5.out.cell' (i := 1) rfl
            have x2 := R5.out.cell' (i := 2) rfl
            have x3 := R5.out.cell' (i := 3) rfl
            have hgl := R5.out.lt
            have P6 := hide (rowAt_alloc w5 [.int .i64 x.op, .int .i64 x.a, .int .i64 x.b, .int .i64 x.c] 51)
            have B6 := hide (below_alloc1 w5 (.cells #[.int .i64 x.op, .int .i64 x.a, .int .i64 x.b, .int .i64 x.c] 51))
            have S6 := hide (S5.out.on B6.out)
            have MM := hide (show c.n + 1 ≤ maxLen by rw [S5.out.cn]; unfold maxLen; omega)
            have QQ := hide (show (c.n + 1) * 32 ≤ 140737488355328 by rw [S5.out.cn]; omega)
            have CO6 := hide S6.out.cO
            go_wp2_with (at_builtin; refine wpList_append_sl rfl (.tmp 47) (.tmp 49) 23 rfl 51 i0 (.agg #[.int .i64 0, .int .i64 0, .int .i64 0, .int .i64 0]) 4 32 Try.underlying23 hi hz0 hz1 hz2 rfl (by decide) c (insCells t.c) rfl CO6.out (some ⟨w5.heap.size, 0, none⟩) 1 1 [.int .i64 x.op, .int .i64 x.a, .int .i64 x.b, .int .i64 x.c] rfl rfl (by simp) (fun ad had q u hu => by cases had; rw [addr_add, Nat.zero_add]; exact P6.out.cell' hu) (insRow_oneCell x) MM.out QQ.out ?_; intro s7 w7 ow7 sn7 ch7 bl7; have OW := hide ow7; have SN := hide sn7; have CH := hide ch7; have BL := hide bl7; have r7 := (S6.out.row.chg ch7 (fun q => by have := S6.out.cb _ q; omega)).cell' (i := 2) rfl; have f7 := (S6.out.row.chg ch7 (fun q => by have := S6.out.cb _ q; omega)).frozen 2; clear ow7 sn7 ch7 bl7)
            go_roundw
            case rel => exact ⟨i + 1, r, s, s7, _, by omega, by go_num, sp_code S6.out OW.out SN.out CH.out (fun k hk => (BL.out k hk).imp id (fun e => by rw [e]; exact Nat.le_refl _)) (by rw [← SQ.out.rn, ← SQ.out.wn]; exact SD.out) h30⟩
            case measure => simp [intOf]; omega
          · skip
            rw [if_pos (by rfl)]
            simp only [List.getElem_toArray, List.getElem_cons_zero, List.getElem_cons_succ]
            refine wp_alloc_let 51 rfl (.agg #[.int .i64 0, .int .i64 0, .int .i64 0, .int .i64 0]) [.int .i64 0, .int .i64 0, .int .i64 0, .int .i64 0] (by kernel_rfl) rfl ?_
            intro u1 gx hgx ru bu zu
            have RU := hide ru; have D1 := hide (below_on D0.out bu); have GX := hide (show wr.heap.size ≤ gx from by rw [hgx]; exact D0.out.size); clear ru zu hgx bu
            refine hK.out _ _ (KL.out _ D1.out) (fun hHeld => ?_)
            clear hK K
            try simp only [Act.put, List.setIfInBounds_toArray, List.set_cons_zero, List.set_cons_succ]
            refine wpAnyH_ready (rs := [11]) (by kernel_rfl) (by simp) ?_
            refine AllReadyH.cons rfl (fun K hK => ?_) AllReadyH.nil
            rw [if_pos (by rfl)]
            simp only [List.getElem_toArray, List.getElem_cons_zero, List.getElem_cons_succ]
            go_simp
            refine (IN.out _).mono ?_
            rintro e v2 ⟨rfl, hsd, hb⟩
            have E2 := hide hb; have SD := hide hsd; have D2 := hide (below_on D1.out hb); clear hb hsd
            refine hK.out _ _ (KL.out _ D2.out) (fun hHeld => ?_)
            clear hK K
            try simp only [List.getElem_toArray, List.getElem_cons_zero, List.getElem_cons_succ, Act.put, List.setIfInBounds_toArray, List.set_cons_zero, List.set_cons_succ]
            refine wpAnyH_ready (rs := [13]) (by kernel_rfl) (by simp) ?_
            refine AllReadyH.cons rfl (fun K hK => ?_) AllReadyH.nil
            rw [if_pos (by rfl)]
            simp only [List.getElem_toArray, List.getElem_cons_zero, List.getElem_cons_succ]
            refine wp_store_row 51 (.tmp 5) (.tmp 45) rfl gx rfl [.int .i64 x.op, .int .i64 x.a, .int .i64 x.b, .int .i64 x.c] [.int .i64 0, .int .i64 0, .int .i64 0, .int .i64 0] 51 (RU.out.below' E2.out) rfl rfl (by kernel_rfl) (insRow_oneCell x) ?_
            intro w5 r5 c5 z5
            have B5 := hide (show Below wr.heap.size wr w5 from D2.out.trans (c5.belowB (fun k hk => by rw [hk]; exact GX.out) D2.out.size))
            have R5 := hide r5; clear r5 c5 z5
            refine hK.out _ _ (KL.out _ B5.out) (fun hHeld => ?_)
            clear hK K
            try simp only [Act.put]
            refine wpAnyH_done (by kernel_rfl) ?_ _
            try simp only [Act.put]
            clear hHeld KL
            have S5 := hide (SQ.out.on B5.out)
            have t2 := S5.out.row.cell' (i := 2) rfl
            have x0 := R5.out.cell' (i := 0) rfl
            have x1 := R5.out.cell' (i := 1) rfl
            have x2 := R5.out.cell' (i := 2) rfl
            have x3 := R5.out.cell' (i := 3) rfl
            have hgl := R5.out.lt
            have P6 := hide (rowAt_alloc w5 [.int .i64 x.op, .int .i64 x.a, .int .i64 x.b, .int .i64 x.c] 51)
            have B6 := hide (below_alloc1 w5 (.cells #[.int .i64 x.op, .int .i64 x.a, .int .i64 x.b, .int .i64 x.c] 51))
            have S6 := hide (S5.out.on B6.out)
            have MM := hide (show c.n + 1 ≤ maxLen by rw [S5.out.cn]; unfold maxLen; omega)
            have QQ := hide (show (c.n + 1) * 32 ≤ 140737488355328 by rw [S5.out.cn]; omega)
            have CO6 := hide S6.out.cO
            go_wp2_with (at_builtin; refine wpList_append_sl rfl (.tmp 47) (.tmp 49) 23 rfl 51 i0 (.agg #[.int .i64 0, .int .i64 0, .int .i64 0, .int .i64 0]) 4 32 Try.underlying23 hi hz0 hz1 hz2 rfl (by decide) c (insCells t.c) rfl CO6.out (some ⟨w5.heap.size, 0, none⟩) 1 1 [.int .i64 x.op, .int .i64 x.a, .int .i64 x.b, .int .i64 x.c] rfl rfl (by simp) (fun ad had q u hu => by cases had; rw [addr_add, Nat.zero_add]; exact P6.out.cell' hu) (insRow_oneCell x) MM.out QQ.out ?_; intro s7 w7 ow7 sn7 ch7 bl7; have OW := hide ow7; have SN := hide sn7; have CH := hide ch7; have BL := hide bl7; have r7 := (S6.out.row.chg ch7 (fun q => by have := S6.out.cb _ q; omega)).cell' (i := 2) rfl; have f7 := (S6.out.row.chg ch7 (fun q => by have := S6.out.cb _ q; omega)).frozen 2; clear ow7 sn7 ch7 bl7)
            go_roundw
            case rel => exact ⟨i + 1, r, s, s7, _, by omega, by go_num, sp_code S6.out OW.out SN.out CH.out (fun k hk => (BL.out k hk).imp id (fun e => by rw [e]; exact Nat.le_refl _)) (by rw [← SQ.out.rn, ← SQ.out.wn]; exact SD.out) h30⟩
            case measure => simp [intOf]; omega
        · skip
          rw [if_pos (by rfl)]
          simp only [List.getElem_toArray, List.getElem_cons_zero, List.getElem_cons_succ]
          refine wp_alloc_let 51 rfl (.agg #[.int .i64 0, .int .i64 0, .int .i64 0, .int .i64 0]) [.int .i64 0, .int .i64 0, .int .i64 0, .int .i64 0] (by kernel_rfl) rfl ?_
          intro u1 gx hgx ru bu zu
          have RU := hide ru; have D1 := hide (below_on D0.out bu); have GX := hide (show wr.heap.size ≤ gx from by rw [hgx]; exact D0.out.size); clear ru zu hgx bu
          refine hK.out _ _ (KL.out _ D1.out) (fun hHeld => ?_)
          clear hK K
          try simp only [Act.put, List.setIfInBounds_toArray, List.set_cons_zero, List.set_cons_succ]
          refine wpAnyH_ready (rs := [4]) (by kernel_rfl) (by simp) ?_
          refine AllReadyH.cons rfl (fun K hK => ?_) AllReadyH.nil
          rw [if_pos (by rfl)]
          simp only [List.getElem_toArray, List.getElem_cons_zero, List.getElem_cons_succ]
          go_simp
          refine (PK.out _).mono ?_
          rintro e v1 ⟨rfl, hv1⟩
          rw [hv1]; clear hv1
          refine hK.out _ _ (KL.out _ D1.out) (fun hHeld => ?_)
          clear hK K
          try simp only [List.getElem_toArray, List.getElem_cons_zero, List.getElem_cons_succ, Act.put, List.setIfInBounds_toArray, List.set_cons_zero, List.set_cons_succ]
          refine wpAnyH_ready (rs := [11]) (by kernel_rfl) (by simp) ?_
          refine AllReadyH.cons rfl (fun K hK => ?_) AllReadyH.nil
          rw [if_pos (by rfl)]
          simp only [List.getElem_toArray, List.getElem_cons_zero, List.getElem_cons_succ]
          go_simp
          refine (IN.out _).mono ?_
          rintro e v2 ⟨rfl, hsd, hb⟩
          have E2 := hide hb; have SD := hide hsd; have D2 := hide (below_on D1.out hb); clear hb hsd
          refine hK.out _ _ (KL.out _ D2.out) (fun hHeld => ?_)
          clear hK K
          try simp only [List.getElem_toArray, List.getElem_cons_zero, List.getElem_cons_succ, Act.put, List.setIfInBounds_toArray, List.set_cons_zero, List.set_cons_succ]
          refine wpAnyH_ready (rs := [13]) (by kernel_rfl) (by simp) ?_
          refine AllReadyH.cons rfl (fun K hK => ?_) AllReadyH.nil
          rw [if_pos (by rfl)]
          simp only [List.getElem_toArray, List.getElem_cons_zero, List.getElem_cons_succ]
          refine wp_store_row 51 (.tmp 5) (.tmp 45) rfl gx rfl [.int .i64 x.op, .int .i64 x.a, .int .i64 x.b, .int .i64 x.c] [.int .i64 0, .int .i64 0, .int .i64 0, .int .i64 0] 51 (RU.out.below' E2.out) rfl rfl (by kernel_rfl) (insRow_oneCell x) ?_
          intro w5 r5 c5 z5
          have B5 := hide (show Below wr.heap.size wr w5 from D2.out.trans (c5.belowB (fun k hk => by rw [hk]; exact GX.out) D2.out.size))
          have R5 := hide r5; clear r5 c5 z5
          refine hK.out _ _ (KL.out _ B5.out) (fun hHeld => ?_)
          clear hK K
          try simp only [Act.put]
          refine wpAnyH_done (by kernel_rfl) ?_ _
          try simp only [Act.put]
          clear hHeld KL
          have S5 := hide (SQ.out.on B5.out)
          have t2 := S5.out.row.cell' (i := 2) rfl
          have x0 := R5.out.cell' (i := 0) rfl
          have x1 := R5.out.cell' (i := 1) rfl
          have x2 := R5.out.cell' (i := 2) rfl
          have x3 := R5.out.cell' (i := 3) rfl
          have hgl := R5.out.lt
          have P6 := hide (rowAt_alloc w5 [.int .i64 x.op, .int .i64 x.a, .int .i64 x.b, .int .i64 x.c] 51)
          have B6 := hide (below_alloc1 w5 (.cells #[.int .i64 x.op, .int .i64 x.a, .int .i64 x.b, .int .i64 x.c] 51))
          have S6 := hide (S5.out.on B6.out)
          have MM := hide (show c.n + 1 ≤ maxLen by rw [S5.out.cn]; unfold maxLen; omega)
          have QQ := hide (show (c.n + 1) * 32 ≤ 140737488355328 by rw [S5.out.cn]; omega)
          have CO6 := hide S6.out.cO
          go_wp2_with (at_builtin; refine wpList_append_sl rfl (.tmp 47) (.tmp 49) 23 rfl 51 i0 (.agg #[.int .i64 0, .int .i64 0, .int .i64 0, .int .i64 0]) 4 32 Try.underlying23 hi hz0 hz1 hz2 rfl (by decide) c (insCells t.c) rfl CO6.out (some ⟨w5.heap.size, 0, none⟩) 1 1 [.int .i64 x.op, .int .i64 x.a, .int .i64 x.b, .int .i64 x.c] rfl rfl (by simp) (fun ad had q u hu => by cases had; rw [addr_add, Nat.zero_add]; exact P6.out.cell' hu) (insRow_oneCell x) MM.out QQ.out ?_; intro s7 w7 ow7 sn7 ch7 bl7; have OW := hide ow7; have SN := hide sn7; have CH := hide ch7; have BL := hide bl7; have r7 := (S6.out.row.chg ch7 (fun q => by have := S6.out.cb _ q; omega)).cell' (i := 2) rfl; have f7 := (S6.out.row.chg ch7 (fun q => by have := S6.out.cb _ q; omega)).frozen 2; clear ow7 sn7 ch7 bl7)
          go_roundw
          case rel => exact ⟨i + 1, r, s, s7, _, by omega, by go_num, sp_code S6.out OW.out SN.out CH.out (fun k hk => (BL.out k hk).imp id (fun e => by rw [e]; exact Nat.le_refl _)) (by rw [← SQ.out.rn, ← SQ.out.wn]; exact SD.out) h30⟩
          case measure => simp [intOf]; omega
      · have hil' : (i : Int) < xs.length := by omega
        have h30' : ¬ (c.n : Int) < 30 := by rw [SQ.out.cn]; omega
        have x0 := SQ.out.row.cell' (i := 0) rfl
        have x1 := SQ.out.row.cell' (i := 1) rfl
        have x2 := SQ.out.row.cell' (i := 2) rfl
        obtain ⟨v0, v1, v2, y0, y1, y2, yf⟩ := SQ.out.cells
        go_wp2
        obtain ⟨z0, z1, z2⟩ := SQ.out.fin (.slice r.a r.n r.c) (.slice s.a s.n s.c) (.slice c.a c.n c.c) _ rfl
        exact bodyPost_ret (v := .agg (TH.cells ⟨r, s, c⟩)) (by simp [results, Try.results23, go_sem, z0, z1, z2, TH.cells]) rfl ⟨⟨r, s, c⟩, t, rfl, sp_end SQ.out chg_three⟩
    · have hil' : ¬ (i : Int) < xs.length := by omega
      have x0 := SQ.out.row.cell' (i := 0) rfl
      have x1 := SQ.out.row.cell' (i := 1) rfl
      have x2 := SQ.out.row.cell' (i := 2) rfl
      obtain ⟨v0, v1, v2, y0, y1, y2, yf⟩ := SQ.out.cells
      go_wp2
      obtain ⟨z0, z1, z2⟩ := SQ.out.fin (.slice r.a r.n r.c) (.slice s.a s.n s.c) (.slice c.a c.n c.c) _ rfl
      exact bodyPost_ret (v := .agg (TH.cells ⟨r, s, c⟩)) (by simp [results, Try.results23, go_sem, z0, z1, z2, TH.cells]) rfl ⟨⟨r, s, c⟩, t, rfl, sp_end SQ.out chg_three⟩

theorem Spelt_any (ao : Option Addr) (cap : Nat) (xs : List Int) (w : World) (hx : IntsAt w ao xs) (hr : ∀ x ∈ xs, inI64 x) (hlen : xs.length ≤ 9223372036854775807) : Calls Try.prog 23 #[.slice ao xs.length cap] w (SpPost w) := by
  match xs, hx, hr, hlen with
  | [], _, _, _ => exact Spelt_0 ao cap w
  | [a], hx, hr, _ =>
    obtain ⟨b, o, rfl, hc, _⟩ := hx.at (k := 0) (by simp)
    exact Spelt_1 b o cap a w (hr a (by simp)) (by simpa using hc 0 (by simp))
  | a :: a' :: l, hx, hr, hlen =>
    obtain ⟨b, o, rfl, hc, _⟩ := hx.at (k := 0) (by simp)
    exact Spelt_2 b o cap _ w hc hr (by simp) hlen

end Go.Proofs.Ytlheloogmgmjnaa
