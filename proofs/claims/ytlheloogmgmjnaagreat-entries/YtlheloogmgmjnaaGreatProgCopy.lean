import Derived.Test.YtlheloogmgmjnaaGreatCopied
import Derived.Test.YtlheloogmgmjnaaGreatStoreRow
import Derived.Deep.RegionHeld
namespace Go.Proofs.YtlheloogmgmjnaaGreat
open Go.RowKit

set_option maxHeartbeats 1000000 in
set_option maxRecDepth 100000 in
theorem icopyI_any (ra : Option Addr) (rc : Nat) (R : List Int) (w : World) (ri : IntsAt w ra R) (hb : R.length * 8 ≤ 140737488351232) (hn : ra = none → R.length = 0 ∧ rc = 0) :
    Calls Tryz.prog 145 #[.slice ra R.length rc] w fun e w' => ∃ s : Sl, e = .returned (.slice s.a s.n s.c) ∧ Own w' 3 1 s (ints R) ∧ s.n = R.length ∧ (∀ k ∈ s.blk, w.heap.size ≤ k) ∧ Below w.heap.size w w' := by
  obtain ⟨i0, hi, hz0, hz1, hz2⟩ := info_parts Tryz.info3
  have IR := hide ri.src'
  have N1 := hide hn
  have M1 := hide (show Sl.nil.n + R.length ≤ maxLen by simp [Sl.nil]; unfold maxLen; omega)
  have Q1 := hide (show (Sl.nil.n + R.length) * 8 ≤ 140737488355328 by simp [Sl.nil]; omega)
  clear ri hn
  go_enter Tryz.func145, Tryz.ntmps145
  go_wp2_with (first
    | (at_builtin; refine wpList_append_sl rfl (.const (.slice none 0 0)) (.tmp 3) 30 rfl 3 i0 (.int .i64 0) 1 8 Tryz.underlying30 hi hz0 hz1 hz2 rfl (by decide) Sl.nil [] rfl (Own.nil _ _ _) ra R.length rc (ints R) rfl (by simp [ints]) N1.out IR.out (ints_oneCell' R) M1.out Q1.out ?_; intro s1 w1 ow1 sn1 ch1 bl1; have OW := hide ow1; have SN := hide sn1; have CH := hide ch1; have BL := hide bl1; clear ow1 sn1 ch1 bl1))
  go_ret
  refine ⟨s1, rfl, by have := OW.out; simpa using this, by rw [SN.out]; simp [Sl.nil], fun k hk => ?_, CH.out.below (by simp [Sl.blk, Sl.nil])⟩
  rcases BL.out k hk with h | h
  · simp [Sl.blk, Sl.nil] at h
  · rw [h]; exact Nat.le_refl _

set_option maxHeartbeats 1000000 in
set_option maxRecDepth 100000 in
theorem icopyX_any (ca : Option Addr) (cc : Nat) (C : List Ins) (w : World) (ci : InsAt w ca C) (hb : C.length * 32 ≤ 140737488351232) (hn : ca = none → C.length = 0 ∧ cc = 0) :
    Calls Tryz.prog 146 #[.slice ca C.length cc] w fun e w' => ∃ s : Sl, e = .returned (.slice s.a s.n s.c) ∧ Own w' 114 4 s (insCells C) ∧ s.n = C.length ∧ (∀ k ∈ s.blk, w.heap.size ≤ k) ∧ Below w.heap.size w w' := by
  obtain ⟨j0, gi, gz0, gz1, gz2⟩ := info_parts Tryz.info114
  have IC := hide ci.src'
  have N3 := hide hn
  have M3 := hide (show Sl.nil.n + C.length ≤ maxLen by simp [Sl.nil]; unfold maxLen; omega)
  have Q3 := hide (show (Sl.nil.n + C.length) * 32 ≤ 140737488355328 by simp [Sl.nil]; omega)
  clear ci hn
  go_enter Tryz.func146, Tryz.ntmps146
  go_wp2_with (first
    | (at_builtin; refine wpList_append_sl rfl (.const (.slice none 0 0)) (.tmp 3) 31 rfl 114 j0 (.agg #[.int .i64 0, .int .i64 0, .int .i64 0, .int .i64 0]) 4 32 Tryz.underlying31 gi gz0 gz1 gz2 rfl (by decide) Sl.nil [] rfl (Own.nil _ _ _) ca C.length cc (insCells C) rfl (by simp [insCells_length]) N3.out IC.out (insCells_oneCell C) M3.out Q3.out ?_; intro s1 w1 ow1 sn1 ch1 bl1; have OW := hide ow1; have SN := hide sn1; have CH := hide ch1; have BL := hide bl1; clear ow1 sn1 ch1 bl1))
  go_ret
  refine ⟨s1, rfl, by have := OW.out; simpa using this, by rw [SN.out]; simp [Sl.nil], fun k hk => ?_, CH.out.below (by simp [Sl.blk, Sl.nil])⟩
  rcases BL.out k hk with h | h
  · simp [Sl.blk, Sl.nil] at h
  · rw [h]; exact Nat.le_refl _

def zeroTxn : List Value := [.slice none 0 0, .slice none 0 0, .slice none 0 0]

theorem thRow_oneCell (a b c : Sl) : ∀ v ∈ ([.slice a.a a.n a.c, .slice b.a b.n b.c, .slice c.a c.n c.c] : List Value), v.oneCell' = true := by
  intro v hv
  simp only [List.mem_cons, List.not_mem_nil, or_false] at hv
  rcases hv with h | h | h <;> subst h <;> rfl

/-- The end of copyOf. -/
theorem copy_end {w W w3 w4 : World} {g : Nat} {R Ws : List Int} {C : List Ins} {s1 s2 s3 : Sl} (hg : w.heap.size ≤ g) (hg2 : g < W.heap.size) (hW : Below w.heap.size w W) (h3 : Below W.heap.size W w3)
    (o1 : Own w3 3 1 s1 (ints R)) (n1 : s1.n = R.length) (b1 : ∀ k ∈ s1.blk, W.heap.size ≤ k) (o2 : Own w3 3 1 s2 (ints Ws)) (n2 : s2.n = Ws.length) (b2 : ∀ k ∈ s2.blk, W.heap.size ≤ k)
    (o3 : Own w3 114 4 s3 (insCells C)) (n3 : s3.n = C.length) (b3 : ∀ k ∈ s3.blk, W.heap.size ≤ k) (hc : Chg w3 w4 (· = g)) :
    OwnTx w4 ⟨s1, s2, s3⟩ ⟨R, Ws, C⟩ ∧ (∀ k ∈ TH.blks ⟨s1, s2, s3⟩, w.heap.size ≤ k) ∧ Below w.heap.size w w4 := by
  have hs := hW.size
  refine ⟨⟨o1.chg hc (fun k hk => by have := b1 k hk; show ¬ k = g; omega), o2.chg hc (fun k hk => by have := b2 k hk; show ¬ k = g; omega), o3.chg hc (fun k hk => by have := b3 k hk; show ¬ k = g; omega), n1, n2, n3⟩, ?_, ?_⟩
  · intro k hk
    simp only [TH.blks, List.mem_append] at hk
    rcases hk with h | h | h
    · have := b1 k h; omega
    · have := b2 k h; omega
    · have := b3 k h; omega
  · exact (below_on hW h3).trans (hc.belowB (fun k hk => by omega) (below_on hW h3).size)

set_option maxHeartbeats 4000000 in
set_option maxRecDepth 100000 in
theorem icopyOf_any (h : TH) (t : Tx) (w : World) (hx : TxAt w h t) (hn : h.nilOk) :
    Calls Tryz.prog 105 #[.agg h.cells] w fun e w' => ∃ h' : TH, e = .returned (.agg h'.cells) ∧ OwnTx w' h' t ∧ (∀ k ∈ h'.blks, w.heap.size ≤ k) ∧ Below w.heap.size w w' := by
  obtain ⟨⟨ra, rn, rc⟩, ⟨wa, wn, wc⟩, ⟨ca, cn, cc⟩⟩ := h
  obtain ⟨R, Ws, C⟩ := t
  obtain ⟨rl, wl, cl, _, _, _, b4, b5, b6, ri, wi, ci⟩ := hx
  obtain ⟨n1, n2, n3⟩ := hn
  simp only at rl wl cl b4 b5 b6 ri wi ci n1 n2 n3
  subst rl wl cl
  have C1 := hide (fun wx (hb : Below w.heap.size w wx) => icopyI_any ra rc R wx (ri.below hb) (by omega) n1)
  have C2 := hide (fun wx (hb : Below w.heap.size w wx) => icopyI_any wa wc Ws wx (wi.below hb) (by omega) n2)
  have C3 := hide (fun wx (hb : Below w.heap.size w wx) => icopyX_any ca cc C wx (ci.below hb) (by omega) n3)
  clear ri wi ci n1 n2 n3 b4 b5 b6
  show Calls Tryz.prog 105 #[.agg #[.slice ra R.length rc, .slice wa Ws.length wc, .slice ca C.length cc]] w _
  have A0 := hide ((rowAt_alloc w [.slice ra R.length rc, .slice wa Ws.length wc, .slice ca C.length cc] 33).alloc (Obj.cells #[.slice none 0 0, .slice none 0 0, .slice none 0 0] 33))
  have Z0 := hide (rowAt_alloc (w.alloc (Obj.cells #[.slice ra R.length rc, .slice wa Ws.length wc, .slice ca C.length cc] 33)) zeroTxn 33)
  have B0 := hide (below_on (below_alloc1 w (Obj.cells #[.slice ra R.length rc, .slice wa Ws.length wc, .slice ca C.length cc] 33)) (below_alloc1 _ (Obj.cells #[.slice none 0 0, .slice none 0 0, .slice none 0 0] 33)))
  simp only [size_alloc_eq] at Z0
  go_enter Tryz.func105, Tryz.ntmps105
  go_wp2
  have hW2 : Hid (w.heap.size + 1 < ((w.alloc (Obj.cells #[.slice ra R.length rc, .slice wa Ws.length wc, .slice ca C.length cc] 33)).alloc (Obj.cells #[.slice none 0 0, .slice none 0 0, .slice none 0 0] 33)).heap.size) := hide (by simp)
  change Hid (RowAt ((w.alloc (Obj.cells #[.slice ra R.length rc, .slice wa Ws.length wc, .slice ca C.length cc] 33)).alloc (Obj.cells #[.slice none 0 0, .slice none 0 0, .slice none 0 0] 33)) (w.heap.size + 1) 33 zeroTxn) at Z0
  generalize (w.alloc (Obj.cells #[.slice ra R.length rc, .slice wa Ws.length wc, .slice ca C.length cc] 33)).alloc (Obj.cells #[.slice none 0 0, .slice none 0 0, .slice none 0 0] 33) = W at *
  have KL : Hid (∀ w', Below W.heap.size W w' → (w'.cell? ⟨w.heap.size, 0, none⟩ = some (.slice ra R.length rc) ∧ w'.cell? ⟨w.heap.size, 1, none⟩ = some (.slice wa Ws.length wc) ∧ w'.cell? ⟨w.heap.size, 2, none⟩ = some (.slice ca C.length cc))) := hide (fun w' hB =>
    ⟨(A0.out.below' hB).cell' (i := 0) rfl, (A0.out.below' hB).cell' (i := 1) rfl, (A0.out.below' hB).cell' (i := 2) rfl⟩)
  refine wp_region_held_drew (S := (fun w' => w'.cell? ⟨w.heap.size, 0, none⟩ = some (.slice ra R.length rc) ∧ w'.cell? ⟨w.heap.size, 1, none⟩ = some (.slice wa Ws.length wc) ∧ w'.cell? ⟨w.heap.size, 2, none⟩ = some (.slice ca C.length cc))) (by kernel_rfl) (KL.out _ (Below.refl _ _).drew) (fun hHeld => ?_)
  have D0 : Hid (Below W.heap.size W W.drew) := hide (Below.refl _ _).drew
  refine wpAnyH_take (i := 0) (v := ?_) rfl (by kernel_rfl) (by kernel_rfl) (by kernel_rfl) (fun _ _ _ h => h) (Or.inl ⟨by rfl, ?_⟩) (by assumption) ?_
  rotate_left
  · intro w hSw; (try dsimp only at hSw); (go_simp <;> with_reducible rfl)
  try simp only [List.getElem_toArray, List.getElem_cons_zero, Act.put, List.setIfInBounds_toArray, List.set_cons_zero, List.set_cons_succ]
  refine wpAnyH_take (i := 1) (v := ?_) rfl (by kernel_rfl) (by kernel_rfl) (by kernel_rfl) (fun _ _ _ h => h) (Or.inl ⟨by rfl, ?_⟩) (by assumption) ?_
  rotate_left
  · intro w hSw; (try dsimp only at hSw); (go_simp <;> with_reducible rfl)
  try simp only [List.getElem_toArray, List.getElem_cons_zero, List.getElem_cons_succ, Act.put, List.setIfInBounds_toArray, List.set_cons_zero, List.set_cons_succ]
  refine wpAnyH_take (i := 3) (v := ?_) rfl (by kernel_rfl) (by kernel_rfl) (by kernel_rfl) (fun _ _ _ h => h) (Or.inl ⟨by rfl, ?_⟩) (by assumption) ?_
  rotate_left
  · intro w hSw; (try dsimp only at hSw); (go_simp <;> with_reducible rfl)
  try simp only [List.getElem_toArray, List.getElem_cons_zero, List.getElem_cons_succ, Act.put, List.setIfInBounds_toArray, List.set_cons_zero, List.set_cons_succ]
  refine wpAnyH_take (i := 4) (v := ?_) rfl (by kernel_rfl) (by kernel_rfl) (by kernel_rfl) (fun _ _ _ h => h) (Or.inl ⟨by rfl, ?_⟩) (by assumption) ?_
  rotate_left
  · intro w hSw; (try dsimp only at hSw); (go_simp <;> with_reducible rfl)
  try simp only [List.getElem_toArray, List.getElem_cons_zero, List.getElem_cons_succ, Act.put, List.setIfInBounds_toArray, List.set_cons_zero, List.set_cons_succ]
  refine wpAnyH_take (i := 6) (v := ?_) rfl (by kernel_rfl) (by kernel_rfl) (by kernel_rfl) (fun _ _ _ h => h) (Or.inl ⟨by rfl, ?_⟩) (by assumption) ?_
  rotate_left
  · intro w hSw; (try dsimp only at hSw); (go_simp <;> with_reducible rfl)
  try simp only [List.getElem_toArray, List.getElem_cons_zero, List.getElem_cons_succ, Act.put, List.setIfInBounds_toArray, List.set_cons_zero, List.set_cons_succ]
  refine wpAnyH_take (i := 7) (v := ?_) rfl (by kernel_rfl) (by kernel_rfl) (by kernel_rfl) (fun _ _ _ h => h) (Or.inl ⟨by rfl, ?_⟩) (by assumption) ?_
  rotate_left
  · intro w hSw; (try dsimp only at hSw); (go_simp <;> with_reducible rfl)
  try simp only [List.getElem_toArray, List.getElem_cons_zero, List.getElem_cons_succ, Act.put, List.setIfInBounds_toArray, List.set_cons_zero, List.set_cons_succ]
  have KS : Hid (∀ wy w4, Below W.heap.size W wy → Chg wy w4 (· = w.heap.size + 1) → (w4.cell? ⟨w.heap.size, 0, none⟩ = some (.slice ra R.length rc) ∧ w4.cell? ⟨w.heap.size, 1, none⟩ = some (.slice wa Ws.length wc) ∧ w4.cell? ⟨w.heap.size, 2, none⟩ = some (.slice ca C.length cc))) := hide (fun wy w4 hB hC =>
    ⟨cell_chg hC (KL.out _ hB).1 (by show ¬ w.heap.size = w.heap.size + 1; omega), cell_chg hC (KL.out _ hB).2.1 (by show ¬ w.heap.size = w.heap.size + 1; omega), cell_chg hC (KL.out _ hB).2.2 (by show ¬ w.heap.size = w.heap.size + 1; omega)⟩)
  refine wpAnyH_ready (rs := [2]) (by kernel_rfl) (by simp) ?_
  refine AllReadyH.cons rfl (fun K hK => ?_) AllReadyH.nil
  · rw [if_pos (by rfl)]
    simp only [List.getElem_toArray, List.getElem_cons_zero, List.getElem_cons_succ]
    go_simp
    refine (C1.out _ (below_on B0.out D0.out)).mono ?_
    rintro e v1 ⟨s1, rfl, ho, hn, hp, hb⟩
    have O1 := hide ho; have N1 := hide hn; have E1 := hide hb; have P1 := hide (fun k (hk : k ∈ s1.blk) => Nat.le_trans D0.out.size (hp k hk)); have D1 := hide (below_on D0.out hb)
    clear ho hn hp hb
    refine hK.out _ _ (KL.out _ D1.out) (fun hHeld => ?_)
    clear hK K
    try simp only [List.getElem_toArray, List.getElem_cons_zero, List.getElem_cons_succ, Act.put, List.setIfInBounds_toArray, List.set_cons_zero, List.set_cons_succ]
    refine wpAnyH_ready (rs := [5]) (by kernel_rfl) (by simp) ?_
    refine AllReadyH.cons rfl (fun K hK => ?_) AllReadyH.nil
    · rw [if_pos (by rfl)]
      simp only [List.getElem_toArray, List.getElem_cons_zero, List.getElem_cons_succ]
      go_simp
      refine (C2.out _ (below_on B0.out D1.out)).mono ?_
      rintro e v2 ⟨s2, rfl, ho, hn, hp, hb⟩
      have O2 := hide ho; have N2 := hide hn; have E2 := hide hb; have P2 := hide (fun k (hk : k ∈ s2.blk) => Nat.le_trans D1.out.size (hp k hk)); have D2 := hide (below_on D1.out hb)
      clear ho hn hp hb
      refine hK.out _ _ (KL.out _ D2.out) (fun hHeld => ?_)
      clear hK K
      try simp only [List.getElem_toArray, List.getElem_cons_zero, List.getElem_cons_succ, Act.put, List.setIfInBounds_toArray, List.set_cons_zero, List.set_cons_succ]
      refine wpAnyH_ready (rs := [8]) (by kernel_rfl) (by simp) ?_
      refine AllReadyH.cons rfl (fun K hK => ?_) AllReadyH.nil
      · rw [if_pos (by rfl)]
        simp only [List.getElem_toArray, List.getElem_cons_zero, List.getElem_cons_succ]
        go_simp
        refine (C3.out _ (below_on B0.out D2.out)).mono ?_
        rintro e v3 ⟨s3, rfl, ho, hn, hp, hb⟩
        have O3 := hide ho; have N3 := hide hn; have E3 := hide hb; have P3 := hide (fun k (hk : k ∈ s3.blk) => Nat.le_trans D2.out.size (hp k hk)); have D3 := hide (below_on D2.out hb)
        clear ho hn hp hb
        refine hK.out _ _ (KL.out _ D3.out) (fun hHeld => ?_)
        clear hK K
        try simp only [List.getElem_toArray, List.getElem_cons_zero, List.getElem_cons_succ, Act.put, List.setIfInBounds_toArray, List.set_cons_zero, List.set_cons_succ]
        refine wpAnyH_take (i := 9) (v := ?_) rfl (by kernel_rfl) (by kernel_rfl) (by kernel_rfl) (fun _ _ _ h => h) (Or.inl ⟨by rfl, ?_⟩) (by assumption) ?_
        rotate_left
        · intro w hSw; (try dsimp only at hSw); (go_simp <;> with_reducible rfl)
        try simp only [List.getElem_toArray, List.getElem_cons_zero, List.getElem_cons_succ, Act.put, List.setIfInBounds_toArray, List.set_cons_zero, List.set_cons_succ]
        refine wpAnyH_ready (rs := [10]) (by kernel_rfl) (by simp) ?_
        refine AllReadyH.cons rfl (fun K hK => ?_) AllReadyH.nil
        rw [if_pos (by rfl)]
        simp only [List.getElem_toArray, List.getElem_cons_zero, List.getElem_cons_succ]
        refine wp_store_row 33 (.tmp 2) (.tmp 12) rfl (w.heap.size + 1) rfl [.slice s1.a s1.n s1.c, .slice s2.a s2.n s2.c, .slice s3.a s3.n s3.c] zeroTxn 33 (Z0.out.below' D3.out) rfl rfl (by kernel_rfl) (thRow_oneCell s1 s2 s3) ?_
        intro w4 r4 c4 z4
        have EN := hide (copy_end (w := w) (W := W) (g := w.heap.size + 1) (by omega) hW2.out B0.out D3.out ((O1.out.below E2.out).below E3.out) N1.out P1.out (O2.out.below E3.out) N2.out P2.out O3.out N3.out P3.out c4)
        refine hK.out _ _ (KS.out _ _ D3.out c4) (fun hHeld => ?_)
        refine wpAnyH_done (by kernel_rfl) ?_ _
        simp only [Act.put]
        have y0 := r4.cell' (i := 0) rfl
        have y1 := r4.cell' (i := 1) rfl
        have y2 := r4.cell' (i := 2) rfl
        clear hK hHeld
        go_wp2
        exact bodyPost_ret (v := .agg #[.slice s1.a s1.n s1.c, .slice s2.a s2.n s2.c, .slice s3.a s3.n s3.c]) (by simp [results, Tryz.results105, go_sem, y0, y1, y2]) rfl ⟨⟨s1, s2, s3⟩, rfl, EN.out⟩

end Go.Proofs.YtlheloogmgmjnaaGreat
