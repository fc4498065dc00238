import Derived.Test.YtlheloogmgmjnaaHdTH
namespace Go.Proofs.Ytlheloogmgmjnaa
open Go.RowKit

set_option maxHeartbeats 2000000 in
set_option maxRecDepth 100000 in
theorem Checks_any (h : TH) (t : Tx) (w : World) (hx : TxAt w h t) :
    Calls Try.prog 3 #[.agg h.cells] w fun e w' => e = .returned (.bool true) ∧ Below w.heap.size w w' := by
  have HX := hide hx
  have HD := hide (fun wx (hb : Below w.heap.size w wx) => handed_any h t wx (hx.below hb))
  have RC := hide (fun wx (hb : Below w.heap.size w wx) => rCheck_any h t wx (hx.below hb))
  have SC := hide (fun (g0 g1 g2 : Nat) wx h0 h1 h2 => sCheck_any (hdTH g0 g1 g2 t) t wx (hdTH_at hx h0 h1 h2))
  have ST := hide (fun (g0 g1 g2 : Nat) wx (hb : Below w.heap.size w wx) h0 h1 h2 => still_any g0 g1 g2 h t wx (hx.below hb) h0 h1 h2)
  clear hx
  obtain ⟨⟨ra, rn, rc⟩, ⟨wa, wn, wc⟩, ⟨ca, cn, cc⟩⟩ := h
  simp only [TH.cells, hdTH] at HD RC SC ST
  show Calls Try.prog 3 #[.agg #[.slice ra rn rc, .slice wa wn wc, .slice ca cn cc]] w _
  go_enter Try.func3, Try.ntmps3
  go_wp2_with fail
  refine (HD.out _ (below_alloc1 _ _)).mono ?_
  rintro e w1 ⟨g0, g1, g2, rfl, _, _, _, h0, h1, h2, hb1⟩
  have B1 := hide (below_on (below_alloc1 _ _) hb1)
  have A1 := hide ((rowAt_alloc w [.slice ra rn rc, .slice wa wn wc, .slice ca cn cc] 25).below' hb1)
  have R0 := hide h0
  have R1 := hide h1
  have R2 := hide h2
  clear h0 h1 h2 hb1
  go_wp2_with fail
  refine (SC.out g0 g1 g2 _ (R0.out.alloc _) (R1.out.alloc _) (R2.out.alloc _)).mono ?_
  rintro e w2 ⟨rfl, hb2⟩
  have B2 := hide (below_on B1.out (below_alloc hb2))
  have H2 := hide ((rowAt_alloc w1 [.slice (some ⟨g0, 0, none⟩) t.r.length (t.r.length + 2), .slice (some ⟨g1, 0, none⟩) t.w.length (t.w.length + 2), .slice (some ⟨g2, 0, none⟩) t.c.length (t.c.length + 2)] 25).below' hb2)
  have A2 := hide (A1.out.below' (below_alloc hb2))
  have P0 := hide (R0.out.below' (below_alloc hb2))
  have P1 := hide (R1.out.below' (below_alloc hb2))
  have P2 := hide (R2.out.below' (below_alloc hb2))
  have a0 := A2.out.cell' (i := 0) rfl
  have a1 := A2.out.cell' (i := 1) rfl
  have a2 := A2.out.cell' (i := 2) rfl
  clear hb2 A1 R0 R1 R2 B1 HD SC
  generalize hn : checkN t = n at *
  clear hn
  go_wp2_with fail
  refine (RC.out _ B2.out).mono ?_
  rintro e w3 ⟨rfl, hb3⟩
  have B3 := hide (below_on B2.out hb3)
  have A3 := hide (A2.out.below' hb3)
  have H3 := hide (H2.out.below' hb3)
  have b0 := A3.out.cell' (i := 0) rfl
  have b1 := A3.out.cell' (i := 1) rfl
  have b2 := A3.out.cell' (i := 2) rfl
  have d0 := H3.out.cell' (i := 0) rfl
  have d1 := H3.out.cell' (i := 1) rfl
  have d2 := H3.out.cell' (i := 2) rfl
  clear a0 a1 a2 RC
  have ST' := hide (ST.out g0 g1 g2 w3 B3.out (P0.out.below' hb3) (P1.out.below' hb3) (P2.out.below' hb3))
  clear ST P0 P1 P2 A2 H2 B2 hb3
  go_wp2_with fail
  refine ST'.out.mono ?_
  rintro e w4 ⟨rfl, hb4⟩
  go_wp2
  go_ret
  exact ⟨ret_bool (by simp), below_on B3.out hb4⟩

end Go.Proofs.Ytlheloogmgmjnaa
