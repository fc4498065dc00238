import Derived.Test.YtlheloogmgmjnaaGreatStill
import Derived.Deep.RegionHeld
import Derived.Deep.DeepMust
namespace Go.Proofs.YtlheloogmgmjnaaGreat
open Go.RowKit

set_option maxHeartbeats 2000000 in
set_option maxRecDepth 100000 in
theorem handed_any (h : TH) (t : Tx) (w : World) (hx : TxAt w h t) :
    Calls Tryz.prog 70 #[.agg h.cells] w fun e w' => ∃ g0 g1 g2, e = .returned (.agg #[.slice (some ⟨g0, 0, none⟩) t.r.length (t.r.length + 2), .slice (some ⟨g1, 0, none⟩) t.w.length (t.w.length + 2), .slice (some ⟨g2, 0, none⟩) t.c.length (t.c.length + 2)]) ∧
      w.heap.size ≤ g0 ∧ w.heap.size ≤ g1 ∧ w.heap.size ≤ g2 ∧ RowAt w' g0 3 (ints (t.r ++ [77, 77])) ∧ RowAt w' g1 3 (ints (t.w ++ [77, 77])) ∧ RowAt w' g2 114 (insCells (t.c ++ [ins77, ins77])) ∧ Below w.heap.size w w' := by
  obtain ⟨⟨ra, rn, rc⟩, ⟨wa, wn, wc⟩, ⟨ca, cn, cc⟩⟩ := h
  obtain ⟨R, W, C⟩ := t
  obtain ⟨rl, wl, cl, b1, b2, b3, b4, b5, b6, ri, wi, ci⟩ := hx
  simp only at rl wl cl b1 b2 b3 b4 b5 b6 ri wi ci
  subst rl wl cl
  have N0 := hide (fun wx (hb : Below w.heap.size w wx) => numbers_any ra rc R wx (ri.below hb) (by omega))
  have N1 := hide (fun wx (hb : Below w.heap.size w wx) => numbers_any wa wc W wx (wi.below hb) (by omega))
  have N2 := hide (fun wx (hb : Below w.heap.size w wx) => code_any ca cc C wx (ci.below hb) (by omega))
  clear ri wi ci b1 b2 b3 b4 b5 b6
  show Calls Tryz.prog 70 #[.agg #[.slice ra R.length rc, .slice wa W.length wc, .slice ca C.length cc]] w _
  go_enter Tryz.func70, Tryz.ntmps70
  go_wp2
  have A1 := hide ((rowAt_alloc w [.slice ra R.length rc, .slice wa W.length wc, .slice ca C.length cc] 33).alloc (Obj.cells #[.slice none 0 0, .slice none 0 0, .slice none 0 0] 33))
  have Z1 := hide (rowAt_alloc (w.alloc (Obj.cells #[.slice ra R.length rc, .slice wa W.length wc, .slice ca C.length cc] 33)) [.slice none 0 0, .slice none 0 0, .slice none 0 0] 33)
  have B1 := hide (below_on (below_alloc1 w (Obj.cells #[.slice ra R.length rc, .slice wa W.length wc, .slice ca C.length cc] 33)) (below_alloc1 _ (Obj.cells #[.slice none 0 0, .slice none 0 0, .slice none 0 0] 33)))
  have hs : (w.alloc (Obj.cells #[.slice ra R.length rc, .slice wa W.length wc, .slice ca C.length cc] 33)).heap.size = w.heap.size + 1 := by simp
  rw [hs] at Z1
  clear hs
  have hs : ((w.alloc (Obj.cells #[.slice ra R.length rc, .slice wa W.length wc, .slice ca C.length cc] 33)).alloc (Obj.cells #[.slice none 0 0, .slice none 0 0, .slice none 0 0] 33)).heap.size = w.heap.size + 2 := by simp
  generalize (w.alloc (Obj.cells #[.slice ra R.length rc, .slice wa W.length wc, .slice ca C.length cc] 33)).alloc (Obj.cells #[.slice none 0 0, .slice none 0 0, .slice none 0 0] 33) = W1 at *
  have HS := hide hs
  clear hs
  have KL : Hid (∀ w', Below (w.heap.size + 1) W1 w' → (w'.cell? ⟨w.heap.size, 0, none⟩ = some (.slice ra R.length rc) ∧ w'.cell? ⟨w.heap.size, 1, none⟩ = some (.slice wa W.length wc) ∧ w'.cell? ⟨w.heap.size, 2, none⟩ = some (.slice ca C.length cc) ∧ Below (w.heap.size + 1) W1 w')) := by
    intro w' hB
    have hr := A1.out.below hB (by omega)
    exact ⟨hr.cell' rfl, hr.cell' rfl, hr.cell' rfl, hB⟩
  obtain ⟨e0, e1, e2, _⟩ := KL.out _ (Below.refl _ _)
  go_region_held (fun w' => w'.cell? ⟨w.heap.size, 0, none⟩ = some (.slice ra R.length rc) ∧ w'.cell? ⟨w.heap.size, 1, none⟩ = some (.slice wa W.length wc) ∧ w'.cell? ⟨w.heap.size, 2, none⟩ = some (.slice ca C.length cc) ∧ Below (w.heap.size + 1) W1 w')
    (first | (refine KL.out _ ?_; exact (Below.refl _ _).drew) | (refine KL.out _ ?_; exact k2) | (refine KL.out _ ?_; exact k3) | (refine KL.out _ ?_; exact k4) | (refine KL.out _ ?_; exact ((k4.setCell (Nat.le_refl _) _).setCell (Nat.le_refl _) _).setCell (Nat.le_refl _) _))
    (first
      | (go_at_call_of 111 (ra); refine (N0.out _ B1.out.drew).mono ?_; rintro e w2 ⟨g0, rfl, hg0, hr0, hb2⟩; have m2 : Below W1.heap.size W1 w2 := ((Below.refl _ _).drew).trans hb2; have k2 : Below (w.heap.size + 1) W1 w2 := m2.mono (by have := HS.out; omega))
      | (go_at_call_of 111 (wa); refine (N1.out _ (below_on B1.out m2)).mono ?_; rintro e w3 ⟨g1, rfl, hg1, hr1, hb3⟩; have m3 := below_on m2 hb3; have k3 : Below (w.heap.size + 1) W1 w3 := m3.mono (by have := HS.out; omega))
      | (go_at_call 112; go_must (refine (N2.out _ (below_on B1.out m3)).mono ?_; rintro e w4 ⟨g2, rfl, hg2, hr2, hb4⟩; have m4 := below_on m3 hb4; have k4 : Below (w.heap.size + 1) W1 w4 := m4.mono (by have := HS.out; omega); have z4 := Z1.out.below' m4; have z0 := z4.cell' (i := 0) rfl; have z1 := z4.cell' (i := 1) rfl; have z2 := z4.cell' (i := 2) rfl; have zf := z4.frozen; have Z4 := hide z4; clear z4)))
  have z5 := ((Z4.out.set 0 (.slice (some ⟨g0, 0, none⟩) R.length (R.length + 2))).set 1 (.slice (some ⟨g1, 0, none⟩) W.length (W.length + 2))).set 2 (.slice (some ⟨g2, 0, none⟩) C.length (C.length + 2))
  have b5 := (((m4.mono (show w.heap.size ≤ W1.heap.size by have := HS.out; omega)).setCell (p := ⟨w.heap.size + 1, 0, none⟩) (by simp) (.slice (some ⟨g0, 0, none⟩) R.length (R.length + 2))).setCell (p := ⟨w.heap.size + 1, 1, none⟩) (by simp) (.slice (some ⟨g1, 0, none⟩) W.length (W.length + 2))).setCell (p := ⟨w.heap.size + 1, 2, none⟩) (by simp) (.slice (some ⟨g2, 0, none⟩) C.length (C.length + 2))
  have q0 : w.heap.size + 2 ≤ g0 := by have := HS.out; have h : W1.heap.size ≤ g0 := hg0; omega
  have q1 : w.heap.size + 2 ≤ g1 := by have := HS.out; have := m2.size; omega
  have q2 : w.heap.size + 2 ≤ g2 := by have := HS.out; have := m3.size; omega
  have r0 := ((((hr0.below' hb3).below' hb4).setOther (a := ⟨w.heap.size + 1, 0, none⟩) (by show g0 ≠ w.heap.size + 1; omega) (.slice (some ⟨g0, 0, none⟩) R.length (R.length + 2))).setOther (a := ⟨w.heap.size + 1, 1, none⟩) (by show g0 ≠ w.heap.size + 1; omega) (.slice (some ⟨g1, 0, none⟩) W.length (W.length + 2))).setOther (a := ⟨w.heap.size + 1, 2, none⟩) (by show g0 ≠ w.heap.size + 1; omega) (.slice (some ⟨g2, 0, none⟩) C.length (C.length + 2))
  have r1 := (((hr1.below' hb4).setOther (a := ⟨w.heap.size + 1, 0, none⟩) (by show g1 ≠ w.heap.size + 1; omega) (.slice (some ⟨g0, 0, none⟩) R.length (R.length + 2))).setOther (a := ⟨w.heap.size + 1, 1, none⟩) (by show g1 ≠ w.heap.size + 1; omega) (.slice (some ⟨g1, 0, none⟩) W.length (W.length + 2))).setOther (a := ⟨w.heap.size + 1, 2, none⟩) (by show g1 ≠ w.heap.size + 1; omega) (.slice (some ⟨g2, 0, none⟩) C.length (C.length + 2))
  have r2 := ((hr2.setOther (a := ⟨w.heap.size + 1, 0, none⟩) (by show g2 ≠ w.heap.size + 1; omega) (.slice (some ⟨g0, 0, none⟩) R.length (R.length + 2))).setOther (a := ⟨w.heap.size + 1, 1, none⟩) (by show g2 ≠ w.heap.size + 1; omega) (.slice (some ⟨g1, 0, none⟩) W.length (W.length + 2))).setOther (a := ⟨w.heap.size + 1, 2, none⟩) (by show g2 ≠ w.heap.size + 1; omega) (.slice (some ⟨g2, 0, none⟩) C.length (C.length + 2))
  generalize ((w4.setCell ⟨w.heap.size + 1, 0, none⟩ (.slice (some ⟨g0, 0, none⟩) R.length (R.length + 2))).setCell ⟨w.heap.size + 1, 1, none⟩ (.slice (some ⟨g1, 0, none⟩) W.length (W.length + 2))).setCell ⟨w.heap.size + 1, 2, none⟩ (.slice (some ⟨g2, 0, none⟩) C.length (C.length + 2)) = w5 at *
  have y0 := z5.cell' (i := 0) rfl
  have y1 := z5.cell' (i := 1) rfl
  have y2 := z5.cell' (i := 2) rfl
  have b6 := hide (B1.out.trans b5)
  clear zf z0 z1 z2 z5 b5 k2 k3 k4 m2 m3 m4 hb2 hb3 hb4 e0 e1 e2 KL Z4 A1 Z1 N0 N1 N2 hr0 hr1 hr2 hg0 hg1 hg2 B1
  go_wp2
  exact bodyPost_ret (v := .agg #[.slice (some ⟨g0, 0, none⟩) R.length (R.length + 2), .slice (some ⟨g1, 0, none⟩) W.length (W.length + 2), .slice (some ⟨g2, 0, none⟩) C.length (C.length + 2)]) (by simp [results, Tryz.results70, go_sem, y0, y1, y2]) rfl ⟨g0, g1, g2, rfl, by omega, by omega, by omega, r0, r1, r2, b6.out⟩

end Go.Proofs.YtlheloogmgmjnaaGreat
