import Derived.Test.YtlheloogmgmjnaaGreatT08
import Derived.Deep.RegionHeld
import Derived.Deep.DeepMust
import Derived.Test.YtlheloogmgmjnaaGreatT09
import Derived.Test.YtlheloogmgmjnaaGreatT03
namespace Go.Proofs.YtlheloogmgmjnaaGreat
open Go.RowKit

set_option maxHeartbeats 2000000 in
set_option maxRecDepth 100000 in
theorem handed_any (h : TH) (t : Tx) (w : World) (hx : TxAt w h t) :
    Calls Tryz.prog 70 #[.agg h.cells] w fun e w' => ∃ g0 g1 g2, e = .returned (.agg #[.slice (some ⟨g0, 0, none⟩) t.r.length (t.r.length + 2), .slice (some ⟨g1, 0, none⟩) t.w.length (t.w.length + 2), .slice (some ⟨g2, 0, none⟩) t.c.length (t.c.length + 2)]) ∧
      w.heap.size ≤ g0 ∧ w.heap.size ≤ g1 ∧ w.heap.size ≤ g2 ∧ RowAt w' g0 3 (ints (t.r ++ [77, 77])) ∧ RowAt w' g1 3 (ints (t.w ++ [77, 77])) ∧ RowAt w' g2 114 (insCells (t.c ++ [ins77, ins77])) ∧ Below w.heap.size w w' := by
  obtain ⟨⟨ra, rn, rc⟩, ⟨wa, wn, wc⟩, ⟨ca, cn, cc⟩⟩ := h
  obtain ⟨R, W, C⟩ := t
  obtain ⟨rl, wl, cl, b1, b2, b3, b4, b5, b6, ri, wi, ci⟩ := hx
  simp only at rl wl cl b1 b2 b3 b4 b5 b6 ri wi ci
  subst rl wl cl
  have N0 := hide (fun wx (hb : Below w.heap.size w wx) => numbers_any ra rc R wx (ri.below hb) (by omega))
  have N1 := hide (fun wx (hb : Below w.heap.size w wx) => numbers_any wa wc W wx (wi.below hb) (by omega))
  have N2 := hide (fun wx (hb : Below w.heap.size w wx) => code_any ca cc C wx (ci.below hb) (by omega))
  clear ri wi ci b1 b2 b3 b4 b5 b6
  show Calls Tryz.prog 70 #[.agg #[.slice ra R.length rc, .slice wa W.length wc, .slice ca C.length cc]] w _
  go_enter Tryz.func70, Tryz.ntmps70
  go_wp2
  have A1 := hide ((rowAt_alloc w [.slice ra R.length rc, .slice wa W.length wc, .slice ca C.length cc] 33).alloc (Obj.cells #[.slice none 0 0, .slice none 0 0, .slice none 0 0] 33))
  have Z1 := hide (rowAt_alloc (w.alloc (Obj.cells #[.slice ra R.length rc, .slice wa W.length wc, .slice ca C.length cc] 33)) [.slice none 0 0, .slice none 0 0, .slice none 0 0] 33)
  have B1 := hide (below_on (below_alloc1 w (Obj.cells #[.slice ra R.length rc, .slice wa W.length wc, .slice ca C.length cc] 33)) (below_alloc1 _ (Obj.cells #[.slice none 0 0, .slice none 0 0, .slice none 0 0] 33)))
  have hs : (w.alloc (Obj.cells #[.slice ra R.length rc, .slice wa W.length wc, .slice ca C.length cc] 33)).heap.size = w.heap.size + 1 := by simp
  rw [hs] at Z1
  clear hs
  have hs : ((w.alloc (Obj.cells #[.slice ra R.length rc, .slice wa W.length wc, .slice ca C.length cc] 33)).alloc (Obj.cells #[.slice none 0 0, .slice none 0 0, .slice none 0 0] 33)).heap.size = w.heap.size + 2 := by simp
  generalize (w.alloc (Obj.cells #[.slice ra R.length rc, .slice wa W.length wc, .slice ca C.length cc] 33)).alloc (Obj.cells #[.slice none 0 0, .slice none 0 0, .slice none 0 0] 33) = W1 at *
  have HS := hide hs
  clear hs
  have KL : Hid (∀ w', Below (w.heap.size + 1) W1 w' → (w'.cell? ⟨w.heap.size, 0, none⟩ = some (.slice ra R.length rc) ∧ w'.cell? ⟨w.heap.size, 1, none⟩ = some (.slice wa W.length wc) ∧ w'.cell? ⟨w.heap.size, 2, none⟩ = some (.slice ca C.length cc) ∧ Below (w.heap.size + 1) W1 w')) := by
    intro w' hB
    have hr := A1.out.below hB (by omega)
    exact ⟨hr.cell' rfl, hr.cell' rfl, hr.cell' rfl, hB⟩
  obtain ⟨e0, e1, e2, _⟩ := KL.out _ (Below.refl _ _)
  go_region_held (fun w' => w'.cell? ⟨w.heap.size, 0, none⟩ = some (.slice ra R.length rc) ∧ w'.cell? ⟨w.heap.size, 1, none⟩ = some (.slice wa W.length wc) ∧ w'.cell? ⟨w.heap.size, 2, none⟩ = some (.slice ca C.length cc) ∧ Below (w.heap.size + 1) W1 w')
    (first | (refine KL.out _ ?_; exact (Below.refl _ _).drew) | (refine KL.out _ ?_; exact k2) | (refine KL.out _ ?_; exact k3) | (refine KL.out _ ?_; exact k4) | (refine KL.out _ ?_; exact ((k4.setCell (Nat.le_refl _) _).setCell (Nat.le_refl _) _).setCell (Nat.le_refl _) _))
    (first
      | (go_at_call_of 111 (ra); refine (N0.out _ B1.out.drew).mono ?_; rintro e w2 ⟨g0, rfl, hg0, hr0, hb2⟩; have m2 : Below W1.heap.size W1 w2 := ((Below.refl _ _).drew).trans hb2; have k2 : Below (w.heap.size + 1) W1 w2 := m2.mono (by have := HS.out; omega))
      | (go_at_call_of 111 (wa); refine (N1.out _ (below_on B1.out m2)).mono ?_; rintro e w3 ⟨g1, rfl, hg1, hr1, hb3⟩; have m3 := below_on m2 hb3; have k3 : Below (w.heap.size + 1) W1 w3 := m3.mono (by have := HS.out; omega))
      | (go_at_call 112; go_must (refine (N2.out _ (below_on B1.out m3)).mono ?_; rintro e w4 ⟨g2, rfl, hg2, hr2, hb4⟩; have m4 := below_on m3 hb4; have k4 : Below (w.heap.size + 1) W1 w4 := m4.mono (by have := HS.out; omega); have z4 := Z1.out.below' m4; have z0 := z4.cell' (i := 0) rfl; have z1 := z4.cell' (i := 1) rfl; have z2 := z4.cell' (i := 2) rfl; have zf := z4.frozen; have Z4 := hide z4; clear z4)))
  have z5 := ((Z4.out.set 0 (.slice (some ⟨g0, 0, none⟩) R.length (R.length + 2))).set 1 (.slice (some ⟨g1, 0, none⟩) W.length (W.length + 2))).set 2 (.slice (some ⟨g2, 0, none⟩) C.length (C.length + 2))
  have b5 := (((m4.mono (show w.heap.size ≤ W1.heap.size by have := HS.out; omega)).setCell (p := ⟨w.heap.size + 1, 0, none⟩) (by simp) (.slice (some ⟨g0, 0, none⟩) R.length (R.length + 2))).setCell (p := ⟨w.heap.size + 1, 1, none⟩) (by simp) (.slice (some ⟨g1, 0, none⟩) W.length (W.length + 2))).setCell (p := ⟨w.heap.size + 1, 2, none⟩) (by simp) (.slice (some ⟨g2, 0, none⟩) C.length (C.length + 2))
  have q0 : w.heap.size + 2 ≤ g0 := by have := HS.out; have h : W1.heap.size ≤ g0 := hg0; omega
  have q1 : w.heap.size + 2 ≤ g1 := by have := HS.out; have := m2.size; omega
  have q2 : w.heap.size + 2 ≤ g2 := by have := HS.out; have := m3.size; omega
  have r0 := ((((hr0.below' hb3).below' hb4).setOther (a := ⟨w.heap.size + 1, 0, none⟩) (by show g0 ≠ w.heap.size + 1; omega) (.slice (some ⟨g0, 0, none⟩) R.length (R.length + 2))).setOther (a := ⟨w.heap.size + 1, 1, none⟩) (by show g0 ≠ w.heap.size + 1; omega) (.slice (some ⟨g1, 0, none⟩) W.length (W.length + 2))).setOther (a := ⟨w.heap.size + 1, 2, none⟩) (by show g0 ≠ w.heap.size + 1; omega) (.slice (some ⟨g2, 0, none⟩) C.length (C.length + 2))
  have r1 := (((hr1.below' hb4).setOther (a := ⟨w.heap.size + 1, 0, none⟩) (by show g1 ≠ w.heap.size + 1; omega) (.slice (some ⟨g0, 0, none⟩) R.length (R.length + 2))).setOther (a := ⟨w.heap.size + 1, 1, none⟩) (by show g1 ≠ w.heap.size + 1; omega) (.slice (some ⟨g1, 0, none⟩) W.length (W.length + 2))).setOther (a := ⟨w.heap.size + 1, 2, none⟩) (by show g1 ≠ w.heap.size + 1; omega) (.slice (some ⟨g2, 0, none⟩) C.length (C.length + 2))
  have r2 := ((hr2.setOther (a := ⟨w.heap.size + 1, 0, none⟩) (by show g2 ≠ w.heap.size + 1; omega) (.slice (some ⟨g0, 0, none⟩) R.length (R.length + 2))).setOther (a := ⟨w.heap.size + 1, 1, none⟩) (by show g2 ≠ w.heap.size + 1; omega) (.slice (some ⟨g1, 0, none⟩) W.length (W.length + 2))).setOther (a := ⟨w.heap.size + 1, 2, none⟩) (by show g2 ≠ w.heap.size + 1; omega) (.slice (some ⟨g2, 0, none⟩) C.length (C.length + 2))
  generalize ((w4.setCell ⟨w.heap.size + 1, 0, none⟩ (.slice (some ⟨g0, 0, none⟩) R.length (R.length + 2))).setCell ⟨w.heap.size + 1, 1, none⟩ (.slice (some ⟨g1, 0, none⟩) W.length (W.length + 2))).setCell ⟨w.heap.size + 1, 2, none⟩ (.slice (some ⟨g2, 0, none⟩) C.length (C.length + 2)) = w5 at *
  have y0 := z5.cell' (i := 0) rfl
  have y1 := z5.cell' (i := 1) rfl
  have y2 := z5.cell' (i := 2) rfl
  have b6 := hide (B1.out.trans b5)
  clear zf z0 z1 z2 z5 b5 k2 k3 k4 m2 m3 m4 hb2 hb3 hb4 e0 e1 e2 KL Z4 A1 Z1 N0 N1 N2 hr0 hr1 hr2 hg0 hg1 hg2 B1
  go_wp2
  exact bodyPost_ret (v := .agg #[.slice (some ⟨g0, 0, none⟩) R.length (R.length + 2), .slice (some ⟨g1, 0, none⟩) W.length (W.length + 2), .slice (some ⟨g2, 0, none⟩) C.length (C.length + 2)]) (by simp [results, Tryz.results70, go_sem, y0, y1, y2]) rfl ⟨g0, g1, g2, rfl, by omega, by omega, by omega, r0, r1, r2, b6.out⟩

end Go.Proofs.YtlheloogmgmjnaaGreat

namespace Go.Proofs.YtlheloogmgmjnaaGreat
open Go.RowKit

theorem RowAt.ints {w : World} {g : Nat} {t : TypeId} {xs ys : List Int} (h : RowAt w g t (ints (xs ++ ys))) : IntsAt w (some ⟨g, 0, none⟩) xs := by
  refine Or.inr ⟨g, 0, rfl, fun i hi => ?_⟩
  rw [Nat.zero_add]
  have := h.cell' (ints_getD (xs ++ ys) i (by simp; omega))
  rw [this]
  simp [List.getD, List.getElem?_append_left hi]

theorem RowAt.instrs {w : World} {g : Nat} {t : TypeId} {xs ys : List Ins} (h : RowAt w g t (insCells (xs ++ ys))) : InsAt w (some ⟨g, 0, none⟩) xs := by
  refine Or.inr ⟨g, 0, rfl, fun i hi => ?_⟩
  rw [Nat.zero_add]
  obtain ⟨c0, c1, c2, c3⟩ := insCells_get (xs ++ ys) i (by simp; omega)
  have e : (xs ++ ys).getD i Ins.zero = xs.getD i Ins.zero := by simp [List.getD, List.getElem?_append_left hi]
  rw [e] at c0 c1 c2 c3
  exact ⟨h.cell' c0, h.cell' c1, h.cell' c2, h.cell' c3⟩

/-- The header of what 'handed' makes. -/
def hdTH (g0 g1 g2 : Nat) (t : Tx) : TH := ⟨⟨some ⟨g0, 0, none⟩, t.r.length, t.r.length + 2⟩, ⟨some ⟨g1, 0, none⟩, t.w.length, t.w.length + 2⟩, ⟨some ⟨g2, 0, none⟩, t.c.length, t.c.length + 2⟩⟩

theorem hdTH_at {w w0 : World} {h : TH} {t : Tx} (hx : TxAt w0 h t) {g0 g1 g2 : Nat} (h0 : RowAt w g0 3 (ints (t.r ++ [77, 77]))) (h1 : RowAt w g1 3 (ints (t.w ++ [77, 77]))) (h2 : RowAt w g2 114 (insCells (t.c ++ [ins77, ins77]))) :
    TxAt w (hdTH g0 g1 g2 t) t :=
  ⟨rfl, rfl, rfl, by simp [hdTH], by simp [hdTH], by simp [hdTH], by have := hx.rb; rw [hx.rl] at this; exact this, by have := hx.wb; rw [hx.wl] at this; exact this, by have := hx.cb; rw [hx.cl] at this; exact this, h0.ints, h1.ints, h2.instrs⟩

end Go.Proofs.YtlheloogmgmjnaaGreat

namespace Go.Proofs.YtlheloogmgmjnaaGreat
open Go.RowKit

/-- A block of so many numbers, whatever they are. -/
def IntRow (w : World) (g L : Nat) : Prop := ∃ xs : List Int, xs.length = L ∧ RowAt w g 3 (ints xs)
/-- A block of so many instructions. -/
def InsRow (w : World) (g L : Nat) : Prop := ∃ cs : List Ins, cs.length = L ∧ RowAt w g 114 (insCells cs)

theorem ints_set' (xs : List Int) (i : Nat) (y : Int) : (ints xs).set i (.int .i64 y) = ints (xs.set i y) := by simp [ints, List.map_set]

theorem IntRow.put {w : World} {g L : Nat} (h : IntRow w g L) (b i : Nat) (v : Int) : IntRow (w.setCell ⟨b, i, none⟩ (.int .i64 v)) g L := by
  obtain ⟨xs, hl, hr⟩ := h
  by_cases hb : g = b
  · subst hb
    refine ⟨xs.set i v, by simpa using hl, ?_⟩
    rw [← ints_set']; exact hr.set i _
  · exact ⟨xs, hl, hr.setOther hb _⟩

theorem IntRow.other {w : World} {g L : Nat} (h : IntRow w g L) {a : Addr} (ha : g ≠ a.block) (v : Value) : IntRow (w.setCell a v) g L := by
  obtain ⟨xs, hl, hr⟩ := h; exact ⟨xs, hl, hr.setOther ha _⟩
theorem InsRow.other {w : World} {g L : Nat} (h : InsRow w g L) {a : Addr} (ha : g ≠ a.block) (v : Value) : InsRow (w.setCell a v) g L := by
  obtain ⟨xs, hl, hr⟩ := h; exact ⟨xs, hl, hr.setOther ha _⟩

theorem InsRow.put {w : World} {g L : Nat} (h : InsRow w g L) (i : Nat) (hi : i < L) (x : Ins) :
    InsRow ((((w.setCell ⟨g, i * 4, none⟩ (.int .i64 x.op)).setCell ⟨g, i * 4 + 1, none⟩ (.int .i64 x.a)).setCell ⟨g, i * 4 + 2, none⟩ (.int .i64 x.b)).setCell ⟨g, i * 4 + 3, none⟩ (.int .i64 x.c)) g L := by
  obtain ⟨cs, hl, hr⟩ := h
  refine ⟨cs.set i x, by simpa using hl, ?_⟩
  rw [← insCells_set cs x i (by omega)]
  exact (((hr.set _ _).set _ _).set _ _).set _ _

theorem IntRow.cell {w : World} {g L : Nat} (h : IntRow w g L) {k : Nat} (hk : k < L) : ∃ z : Int, w.cell? ⟨g, k, none⟩ = some (.int .i64 z) := by
  obtain ⟨xs, hl, hr⟩ := h; exact ⟨_, hr.cell' (ints_getD xs k (by omega))⟩
theorem IntRow.frozen {w : World} {g L : Nat} (h : IntRow w g L) (k : Nat) : w.frozen? ⟨g, k, none⟩ = false := by obtain ⟨xs, hl, hr⟩ := h; exact hr.frozen k
theorem InsRow.frozen {w : World} {g L : Nat} (h : InsRow w g L) (k : Nat) : w.frozen? ⟨g, k, none⟩ = false := by obtain ⟨xs, hl, hr⟩ := h; exact hr.frozen k
theorem InsRow.cells {w : World} {g L : Nat} (h : InsRow w g L) {k : Nat} (hk : k < L) : ∃ x : Ins, w.cell? ⟨g, k * 4, none⟩ = some (.int .i64 x.op) ∧ w.cell? ⟨g, k * 4 + 1, none⟩ = some (.int .i64 x.a) ∧ w.cell? ⟨g, k * 4 + 2, none⟩ = some (.int .i64 x.b) ∧ w.cell? ⟨g, k * 4 + 3, none⟩ = some (.int .i64 x.c) := by
  obtain ⟨cs, hl, hr⟩ := h
  obtain ⟨c0, c1, c2, c3⟩ := insCells_get cs k (by omega)
  exact ⟨_, hr.cell' c0, hr.cell' c1, hr.cell' c2, hr.cell' c3⟩
theorem IntRow.ne_ins {w : World} {g g' L L' : Nat} (h : IntRow w g L) (h' : InsRow w g' L') : g ≠ g' := by
  rintro rfl
  obtain ⟨xs, _, hr⟩ := h; obtain ⟨cs, _, hr'⟩ := h'
  unfold RowAt at hr hr'
  rw [hr] at hr'; simp at hr'
theorem IntRow.below {w w' : World} {g L : Nat} (h : IntRow w g L) (hb : Below w.heap.size w w') : IntRow w' g L := by obtain ⟨xs, hl, hr⟩ := h; exact ⟨xs, hl, hr.below' hb⟩
theorem InsRow.below {w w' : World} {g L : Nat} (h : InsRow w g L) (hb : Below w.heap.size w w') : InsRow w' g L := by obtain ⟨xs, hl, hr⟩ := h; exact ⟨xs, hl, hr.below' hb⟩
theorem IntRow.lt {w : World} {g L : Nat} (h : IntRow w g L) : g < w.heap.size := by obtain ⟨xs, hl, hr⟩ := h; exact hr.lt
theorem InsRow.lt {w : World} {g L : Nat} (h : InsRow w g L) : g < w.heap.size := by obtain ⟨xs, hl, hr⟩ := h; exact hr.lt

/-- What stands through all of spoil. -/
structure SpoilAt (w wr : World) (g0 g1 g2 L0 L1 L2 : Nat) (box : List Value) : Prop where
  r : IntRow wr g0 L0
  q : IntRow wr g1 L1
  c : InsRow wr g2 L2
  b : RowAt wr w.heap.size 33 box
  g0l : g0 < w.heap.size
  g1l : g1 < w.heap.size
  g2l : g2 < w.heap.size
  ch : Chg w wr (fun k => k = g0 ∨ k = g1 ∨ k = g2)

theorem SpoilAt.put0 {w wr : World} {g0 g1 g2 L0 L1 L2 : Nat} {box : List Value} (h : SpoilAt w wr g0 g1 g2 L0 L1 L2 box) (i : Nat) (v : Int) : SpoilAt w (wr.setCell ⟨g0, i, none⟩ (.int .i64 v)) g0 g1 g2 L0 L1 L2 box :=
  ⟨h.r.put _ _ _, h.q.put _ _ _, h.c.other (Ne.symm (h.r.ne_ins h.c)) _, h.b.setOther (by have := h.g0l; show w.heap.size ≠ g0; omega) _, h.g0l, h.g1l, h.g2l, h.ch.put _ _ (Or.inl rfl)⟩
theorem SpoilAt.put1 {w wr : World} {g0 g1 g2 L0 L1 L2 : Nat} {box : List Value} (h : SpoilAt w wr g0 g1 g2 L0 L1 L2 box) (i : Nat) (v : Int) : SpoilAt w (wr.setCell ⟨g1, i, none⟩ (.int .i64 v)) g0 g1 g2 L0 L1 L2 box :=
  ⟨h.r.put _ _ _, h.q.put _ _ _, h.c.other (Ne.symm (h.q.ne_ins h.c)) _, h.b.setOther (by have := h.g1l; show w.heap.size ≠ g1; omega) _, h.g0l, h.g1l, h.g2l, h.ch.put _ _ (Or.inr (Or.inl rfl))⟩
theorem SpoilAt.put2 {w wr : World} {g0 g1 g2 L0 L1 L2 : Nat} {box : List Value} (h : SpoilAt w wr g0 g1 g2 L0 L1 L2 box) (i : Nat) (hi : i < L2) (x : Ins) :
    SpoilAt w ((((wr.setCell ⟨g2, i * 4, none⟩ (.int .i64 x.op)).setCell ⟨g2, i * 4 + 1, none⟩ (.int .i64 x.a)).setCell ⟨g2, i * 4 + 2, none⟩ (.int .i64 x.b)).setCell ⟨g2, i * 4 + 3, none⟩ (.int .i64 x.c)) g0 g1 g2 L0 L1 L2 box := by
  have n0 := h.r.ne_ins h.c
  have n1 := h.q.ne_ins h.c
  have nb : w.heap.size ≠ g2 := by have := h.g2l; omega
  have d : ∀ k, k = g2 → (k = g0 ∨ k = g1 ∨ k = g2) := fun k hk => Or.inr (Or.inr hk)
  exact ⟨(((h.r.other n0 _).other n0 _).other n0 _).other n0 _, (((h.q.other n1 _).other n1 _).other n1 _).other n1 _, h.c.put i hi x, (((h.b.setOther nb _).setOther nb _).setOther nb _).setOther nb _, h.g0l, h.g1l, h.g2l,
    (((h.ch.put _ _ (d _ rfl)).put _ _ (d _ rfl)).put _ _ (d _ rfl)).put _ _ (d _ rfl)⟩

set_option maxHeartbeats 2000000 in
set_option maxRecDepth 100000 in
theorem spoil_any (g0 g1 g2 n0 n1 n2 c0 c1 c2 L0 L1 L2 : Nat) (w : World) (h0 : IntRow w g0 L0) (h1 : IntRow w g1 L1) (h2 : InsRow w g2 L2) (l0 : n0 ≤ L0) (l1 : n1 ≤ L1) (l2 : n2 ≤ L2)
    (m0 : n0 ≤ 140737488355328) (m1 : n1 ≤ 140737488355328) (m2 : n2 ≤ 140737488355328) :
    Calls Tryz.prog 72 #[.agg #[.slice (some ⟨g0, 0, none⟩) n0 c0, .slice (some ⟨g1, 0, none⟩) n1 c1, .slice (some ⟨g2, 0, none⟩) n2 c2]] w fun e w' => (∃ v, e = .returned v) ∧ Chg w w' (fun k => k = g0 ∨ k = g1 ∨ k = g2) := by
  have S0 : Hid (SpoilAt w (w.alloc (.cells #[.slice (some ⟨g0, 0, none⟩) n0 c0, .slice (some ⟨g1, 0, none⟩) n1 c1, .slice (some ⟨g2, 0, none⟩) n2 c2] 33)) g0 g1 g2 L0 L1 L2 [.slice (some ⟨g0, 0, none⟩) n0 c0, .slice (some ⟨g1, 0, none⟩) n1 c1, .slice (some ⟨g2, 0, none⟩) n2 c2]) :=
    ⟨h0.below (below_alloc1 _ _), h1.below (below_alloc1 _ _), h2.below (below_alloc1 _ _), rowAt_alloc w _ _, h0.lt, h1.lt, h2.lt, Chg.of_below (below_alloc1 _ _) _⟩
  clear h0 h1 h2
  go_enter Tryz.func72, Tryz.ntmps72
  go_wp2
  generalize w.alloc (.cells #[.slice (some ⟨g0, 0, none⟩) n0 c0, .slice (some ⟨g1, 0, none⟩) n1 c1, .slice (some ⟨g2, 0, none⟩) n2 c2] 33) = W0 at *
  go_loopw [2] (fun t wr => ∃ k : Nat, k ≤ n0 ∧ t = .int .i64 k ∧ Hid (SpoilAt w wr g0 g1 g2 L0 L1 L2 [.slice (some ⟨g0, 0, none⟩) n0 c0, .slice (some ⟨g1, 0, none⟩) n1 c1, .slice (some ⟨g2, 0, none⟩) n2 c2])) (fun t _ => n0 - (intOf t).toNat)
  case atStart => exact ⟨0, by omega, rfl, S0⟩
  case round =>
    obtain ⟨k, hk, rfl, hS⟩ := hrel
    clear S0
    have e0 := hS.out.b.cell' (i := 0) rfl
    by_cases hlt : k < n0
    · obtain ⟨z, hc⟩ := hS.out.r.cell (k := k) (by omega)
      have hf := hS.out.r.frozen k
      go_wp2
      go_roundw
      case rel => exact ⟨k + 1, by omega, by go_num, hide (hS.out.put0 _ _)⟩
      case measure => simp [intOf]; omega
    · go_wp2
      go_loopw [3] (fun t wr => ∃ k : Nat, k ≤ n1 ∧ t = .int .i64 k ∧ Hid (SpoilAt w wr g0 g1 g2 L0 L1 L2 [.slice (some ⟨g0, 0, none⟩) n0 c0, .slice (some ⟨g1, 0, none⟩) n1 c1, .slice (some ⟨g2, 0, none⟩) n2 c2])) (fun t _ => n1 - (intOf t).toNat)
      case atStart => exact ⟨0, by omega, rfl, hS⟩
      case round =>
        obtain ⟨k, hk, rfl, hS⟩ := hrel
        have e1 := hS.out.b.cell' (i := 1) rfl
        by_cases hlt : k < n1
        · obtain ⟨z, hc⟩ := hS.out.q.cell (k := k) (by omega)
          have hf := hS.out.q.frozen k
          go_wp2
          go_roundw
          case rel => exact ⟨k + 1, by omega, by go_num, hide (hS.out.put1 _ _)⟩
          case measure => simp [intOf]; omega
        · go_wp2
          go_loopw [4] (fun t wr => ∃ k : Nat, k ≤ n2 ∧ t = .int .i64 k ∧ Hid (SpoilAt w wr g0 g1 g2 L0 L1 L2 [.slice (some ⟨g0, 0, none⟩) n0 c0, .slice (some ⟨g1, 0, none⟩) n1 c1, .slice (some ⟨g2, 0, none⟩) n2 c2])) (fun t _ => n2 - (intOf t).toNat)
          case atStart => exact ⟨0, by omega, rfl, hS⟩
          case round =>
            obtain ⟨k, hk, rfl, hS⟩ := hrel
            have e2 := hS.out.b.cell' (i := 2) rfl
            by_cases hlt : k < n2
            · obtain ⟨x, x0, x1, x2, x3⟩ := hS.out.c.cells (k := k) (by omega)
              have hf := hS.out.c.frozen
              have HP := hide (hS.out.put2 k (by omega) ⟨11, 0, 0, 0⟩)
              clear hS
              go_wp2
              go_roundw
              case rel => exact ⟨k + 1, by omega, by go_num, HP⟩
              case measure => simp [intOf]; omega
            · go_wp2
              refine bodyPost_end (results_none rfl _ _ _) rfl ?_
              exact ⟨⟨_, rfl⟩, hS.out.ch⟩

end Go.Proofs.YtlheloogmgmjnaaGreat
