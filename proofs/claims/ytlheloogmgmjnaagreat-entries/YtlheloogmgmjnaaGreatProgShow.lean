import Derived.Test.YtlheloogmgmjnaaGreatProgRead
namespace Go.Proofs.YtlheloogmgmjnaaGreat
open Go.RowKit

theorem mkCells_get (l : List Nat) : ∀ i, i < l.length → (mkCells l)[i * 2]? = some (.int .i64 0) ∧ (mkCells l)[i * 2 + 1]? = some (.map (some (l.getD i 0))) := by
  induction l with
  | nil => intro i hi; simp at hi
  | cons x r ih =>
    intro i hi
    have e : mkCells (x :: r) = .int .i64 0 :: .map (some x) :: mkCells r := by simp [mkCells]
    cases i with
    | zero => simp [e]
    | succ i =>
      have := ih i (by simpa using hi)
      rw [e, show (i + 1) * 2 = i * 2 + 1 + 1 by omega]
      simpa [List.getD] using this

theorem PAt.maker {w : World} {M : PM} (h : PAt w M) {k : Nat} (hk : k < M.mbs.length) : ∃ g, M.mkS.a = some ⟨g, 0, none⟩ ∧ w.cell? ⟨g, k * 2, none⟩ = some (.int .i64 0) ∧ w.cell? ⟨g, k * 2 + 1, none⟩ = some (.map (some (M.mbs.getD k 0))) ∧ w.heap[M.mbs.getD k 0]? = some (.map #[] 0) := by
  obtain ⟨h0, h1⟩ := mkCells_get M.mbs k hk
  obtain ⟨g, hg, c0⟩ := h.mkO.cell h0
  obtain ⟨g', hg', c1⟩ := h.mkO.cell h1
  rw [hg] at hg'
  simp at hg'
  subst hg'
  refine ⟨g, hg, c0, c1, h.maps _ ?_⟩
  rw [nat_get hk]; exact List.getElem_mem hk

theorem PAt.maker' {w : World} {M : PM} (h : PAt w M) {g : Nat} (hg : M.mkS.a = some ⟨g, 0, none⟩) {k : Nat} (hk : k < M.mbs.length) : w.cell? ⟨g, k * 2, none⟩ = some (.int .i64 0) ∧ w.cell? ⟨g, k * 2 + 1, none⟩ = some (.map (some (M.mbs.getD k 0))) ∧ w.heap[M.mbs.getD k 0]? = some (.map #[] 0) := by
  obtain ⟨g', hg', h1, h2, h3⟩ := h.maker hk
  rw [hg] at hg'
  simp at hg'
  subst hg'
  exact ⟨h1, h2, h3⟩

set_option maxHeartbeats 1000000 in
set_option maxRecDepth 100000 in
theorem plive_zero (M : PM) (w : World) (h : PAt w M) :
    Calls Tryz.prog 63 #[.pointer (some ⟨M.b, 0, none⟩)] w fun e w' => e = .returned (.int .i64 0) ∧ Below w.heap.size w w' := by
  have c4 := h.row.cell' (i := 4) (v := .slice M.mkS.a M.mkS.n M.mkS.c) rfl
  rw [h.mkn] at c4
  have h8 := h.mk8
  have H := hide h
  obtain ⟨g, hg, _⟩ := h.maker (k := 0) h.mk1
  rw [hg] at c4
  have HG := hide hg
  clear h hg
  go_enter Tryz.func63, Tryz.ntmps63
  go_wp2
  go_loopw [3, 11] (fun n i wr => ∃ k : Nat, k ≤ M.mbs.length ∧ i = .int .i64 k ∧ n = .int .i64 0 ∧ Below w.heap.size w wr) (fun _ i _ => M.mbs.length - (intOf i).toNat)
  case atStart => exact ⟨0, Nat.zero_le _, rfl, rfl, Below.refl _ _⟩
  case round =>
    obtain ⟨k, hk, rfl, rfl, hb⟩ := hrel
    by_cases hlt : k < M.mbs.length
    · obtain ⟨c0, c1, hm⟩ := (H.out.below hb).maker' HG.out hlt
      have ML := hide (fun wx (hb : Below wr.heap.size wr wx) => mLive_empty (M.mbs.getD k 0) wx (by rw [hb.block _ (blk_of_map hm)]; exact hm))
      generalize M.mbs.getD k 0 = mb at *
      have HB := hide hb
      clear hm hb c4
      go_wp2_with fail
      refine (ML.out _ (below_alloc1 _ _)).mono ?_
      rintro e wx ⟨rfl, hbx⟩
      have HX := hide (below_on HB.out (below_alloc hbx))
      clear hbx ML HB
      go_wp2
      go_roundw
      case rel => exact ⟨k + 1, by omega, by go_num, by go_num, HX.out⟩
      case measure => simp [intOf]; omega
    · go_wp2
      go_ret
      exact ⟨rfl, hb⟩

set_option maxHeartbeats 1000000 in
set_option maxRecDepth 100000 in
theorem pready_zero (M : PM) (w : World) (h : PAt w M) :
    Calls Tryz.prog 59 #[.pointer (some ⟨M.b, 0, none⟩)] w fun e w' => e = .returned (.tuple #[.int .i64 0, .int .i64 0]) ∧ Below w.heap.size w w' := by
  have c4 := h.row.cell' (i := 4) (v := .slice M.mkS.a M.mkS.n M.mkS.c) rfl
  rw [h.mkn] at c4
  have h8 := h.mk8
  have h1 := h.mk1
  have H := hide h
  obtain ⟨g, hg, d0, _⟩ := h.maker (k := 0) h.mk1
  rw [Nat.zero_mul] at d0
  rw [hg] at c4
  have HG := hide hg
  have WH := hide (fun wx (hb : Below w.heap.size w wx) => iWhole_zero M wx (h.below hb))
  clear h hg
  go_enter Tryz.func59, Tryz.ntmps59
  go_wp2
  go_loopw [4, 19] (fun n i wr => ∃ k : Nat, k ≤ M.mbs.length ∧ i = .int .i64 k ∧ n = .int .i64 0 ∧ Below w.heap.size w wr) (fun _ i _ => M.mbs.length - (intOf i).toNat)
  case atStart => exact ⟨0, Nat.zero_le _, rfl, rfl, Below.refl _ _⟩
  case round =>
    obtain ⟨k, hk, rfl, rfl, hb⟩ := hrel
    by_cases hlt : k < M.mbs.length
    · obtain ⟨c0, c1, hm⟩ := (H.out.below hb).maker' HG.out hlt
      generalize M.mbs.getD k 0 = mb at *
      have HB := hide hb
      clear hm hb c4 d0
      go_wp2
      go_roundw
      case rel => exact ⟨k + 1, by omega, by go_num, by go_num, below_on HB.out (below_alloc1 _ _)⟩
      case measure => simp [intOf]; omega
    · have HB := hide hb
      clear c4 d0 hb
      go_wp2_with (go_at_call 103; refine (WH.out _ HB.out).mono ?_; rintro e w' ⟨rfl, rfl⟩)
      go_ret2
      exact ⟨rfl, HB.out⟩

def stCells (t b r d m k l : Nat) : List Value := [.int .i64 t, .int .i64 b, .int .i64 r, .int .i64 d, .int .i64 m, .int .i64 k, .int .i64 l]
def zeroState : List Value := [.int .i64 0, .int .i64 0, .int .i64 0, .int .i64 0, .int .i64 0, .int .i64 0, .int .i64 0]

theorem stCells_oneCell (t b r d m k l : Nat) : ∀ v ∈ stCells t b r d m k l, v.oneCell' = true := by
  intro v hv
  simp only [stCells, List.mem_cons, List.not_mem_nil, or_false] at hv
  rcases hv with h | h | h | h | h | h | h <;> subst h <;> rfl

set_option maxHeartbeats 2000000 in
set_option maxRecDepth 100000 in
theorem pShow_any (M : PM) (w : World) (h : PAt w M) :
    Calls Tryz.prog 32 #[.pointer (some ⟨M.b, 0, none⟩)] w fun e w' => e = .returned (.agg (stCells M.recs.length M.ends.length 0 0 0 M.taken 0).toArray) ∧ Below w.heap.size w w' := by
  have RD := hide (fun wx (hb : Below w.heap.size w wx) => pready_zero M wx (h.below hb))
  have H := hide h
  clear h
  go_enter Tryz.func32, Tryz.ntmps32
  go_wp2_with fail
  refine (RD.out _ (below_alloc1 _ _)).mono ?_
  rintro e w1 ⟨rfl, hb1⟩
  have G1 := hide ((rowAt_alloc w zeroState 73).below' hb1)
  have B1 := hide (below_alloc hb1)
  clear hb1 RD
  go_wp2
  have H1 := hide ((H.out.below B1.out).drewN 1)
  refine wp_region_U (L := #[true, true, true, true, true, true, true, true, true, true, true, true, true, true, true, true, true, true, true, true, true, true, true, true, false]) (S := (fun w' => PAt w' M ∧ RowAt w' w.heap.size 73 zeroState ∧ Below w.heap.size w w')) (by kernel_rfl) ⟨H1.out, G1.out.drew, B1.out.drew⟩ ?_
  refine wpU_take (i := 0) (v := ?_) rfl (by kernel_rfl) (by kernel_rfl) (by kernel_rfl) (by kernel_rfl) (fun _ _ _ h => h) (by rfl) ?_ ?_
  rotate_left
  · intro wx hS; refine lands_value ?_ hS; go_simp <;> with_reducible rfl
  try simp only [List.getElem_toArray, List.getElem_cons_zero, Act.put, List.setIfInBounds_toArray, List.set_cons_zero, List.set_cons_succ]
  refine wpU_take (i := 1) (v := ?_) rfl (by kernel_rfl) (by kernel_rfl) (by kernel_rfl) (by kernel_rfl) (fun _ _ _ h => h) (by rfl) ?_ ?_
  rotate_left
  · intro wx hS; refine lands_value ?_ hS; go_simp <;> with_reducible rfl
  try simp only [List.getElem_toArray, List.getElem_cons_zero, List.getElem_cons_succ, Act.put, List.setIfInBounds_toArray, List.set_cons_zero, List.set_cons_succ]
  refine wpU_take (i := 2) (v := ?_) rfl (by kernel_rfl) (by kernel_rfl) (by kernel_rfl) (by kernel_rfl) (fun _ _ _ h => h) (by rfl) ?_ ?_
  rotate_left
  · intro wx hS; refine lands_value ?_ hS; go_simp <;> with_reducible rfl
  try simp only [List.getElem_toArray, List.getElem_cons_zero, List.getElem_cons_succ, Act.put, List.setIfInBounds_toArray, List.set_cons_zero, List.set_cons_succ]
  refine wpU_take (i := 3) (v := .int .i64 M.recs.length) rfl (by kernel_rfl) (by kernel_rfl) (by kernel_rfl) (by kernel_rfl) (fun _ _ _ h => h) (by rfl) ?_ ?_
  · intro wx hS; refine lands_enter (w := wx) (f := 56) (args := #[.pointer (some ⟨M.b, 2, none⟩)]) (by go_simp) ?_; refine (iTxns_any M wx hS.1).mono ?_; rintro e w2 ⟨rfl, rfl⟩; exact ⟨rfl, hS⟩
  try simp only [List.getElem_toArray, List.getElem_cons_zero, List.getElem_cons_succ, Act.put, List.setIfInBounds_toArray, List.set_cons_zero, List.set_cons_succ]
  refine wpU_take (i := 4) (v := ?_) rfl (by kernel_rfl) (by kernel_rfl) (by kernel_rfl) (by kernel_rfl) (fun _ _ _ h => h) (by rfl) ?_ ?_
  rotate_left
  · intro wx hS; refine lands_value ?_ hS; go_simp <;> with_reducible rfl
  try simp only [List.getElem_toArray, List.getElem_cons_zero, List.getElem_cons_succ, Act.put, List.setIfInBounds_toArray, List.set_cons_zero, List.set_cons_succ]
  refine wpU_take (i := 5) (v := ?_) rfl (by kernel_rfl) (by kernel_rfl) (by kernel_rfl) (by kernel_rfl) (fun _ _ _ h => h) (by rfl) ?_ ?_
  rotate_left
  · intro wx hS; refine lands_value ?_ hS; go_simp <;> with_reducible rfl
  try simp only [List.getElem_toArray, List.getElem_cons_zero, List.getElem_cons_succ, Act.put, List.setIfInBounds_toArray, List.set_cons_zero, List.set_cons_succ]
  refine wpU_take (i := 6) (v := ?_) rfl (by kernel_rfl) (by kernel_rfl) (by kernel_rfl) (by kernel_rfl) (fun _ _ _ h => h) (by rfl) ?_ ?_
  rotate_left
  · intro wx hS; refine lands_value ?_ hS; go_simp <;> with_reducible rfl
  try simp only [List.getElem_toArray, List.getElem_cons_zero, List.getElem_cons_succ, Act.put, List.setIfInBounds_toArray, List.set_cons_zero, List.set_cons_succ]
  refine wpU_take (i := 7) (v := .int .i64 M.ends.length) rfl (by kernel_rfl) (by kernel_rfl) (by kernel_rfl) (by kernel_rfl) (fun _ _ _ h => h) (by rfl) ?_ ?_
  · intro wx hS; refine lands_enter (w := wx) (f := 60) (args := #[.pointer (some ⟨M.b, 2, none⟩)]) (by go_simp) ?_; refine (iBatches_any M wx hS.1).mono ?_; rintro e w2 ⟨rfl, rfl⟩; exact ⟨rfl, hS⟩
  try simp only [List.getElem_toArray, List.getElem_cons_zero, List.getElem_cons_succ, Act.put, List.setIfInBounds_toArray, List.set_cons_zero, List.set_cons_succ]
  refine wpU_take (i := 8) (v := ?_) rfl (by kernel_rfl) (by kernel_rfl) (by kernel_rfl) (by kernel_rfl) (fun _ _ _ h => h) (by rfl) ?_ ?_
  rotate_left
  · intro wx hS; refine lands_value ?_ hS; go_simp <;> with_reducible rfl
  try simp only [List.getElem_toArray, List.getElem_cons_zero, List.getElem_cons_succ, Act.put, List.setIfInBounds_toArray, List.set_cons_zero, List.set_cons_succ]
  refine wpU_take (i := 9) (v := ?_) rfl (by kernel_rfl) (by kernel_rfl) (by kernel_rfl) (by kernel_rfl) (fun _ _ _ h => h) (by rfl) ?_ ?_
  rotate_left
  · intro wx hS; refine lands_value ?_ hS; go_simp <;> with_reducible rfl
  try simp only [List.getElem_toArray, List.getElem_cons_zero, List.getElem_cons_succ, Act.put, List.setIfInBounds_toArray, List.set_cons_zero, List.set_cons_succ]
  refine wpU_take (i := 10) (v := ?_) rfl (by kernel_rfl) (by kernel_rfl) (by kernel_rfl) (by kernel_rfl) (fun _ _ _ h => h) (by rfl) ?_ ?_
  rotate_left
  · intro wx hS; refine lands_value ?_ hS; go_simp <;> with_reducible rfl
  try simp only [List.getElem_toArray, List.getElem_cons_zero, List.getElem_cons_succ, Act.put, List.setIfInBounds_toArray, List.set_cons_zero, List.set_cons_succ]
  refine wpU_take (i := 11) (v := ?_) rfl (by kernel_rfl) (by kernel_rfl) (by kernel_rfl) (by kernel_rfl) (fun _ _ _ h => h) (by rfl) ?_ ?_
  rotate_left
  · intro wx hS; refine lands_value ?_ hS; go_simp <;> with_reducible rfl
  try simp only [List.getElem_toArray, List.getElem_cons_zero, List.getElem_cons_succ, Act.put, List.setIfInBounds_toArray, List.set_cons_zero, List.set_cons_succ]
  refine wpU_take (i := 12) (v := .int .i64 0) rfl (by kernel_rfl) (by kernel_rfl) (by kernel_rfl) (by kernel_rfl) (fun _ _ _ h => h) (by rfl) ?_ ?_
  · intro wx hS; refine lands_enter (w := wx) (f := 61) (args := #[.pointer (some ⟨M.b, 2, none⟩)]) (by go_simp) ?_; refine (iDone_zero M wx hS.1).mono ?_; rintro e w2 ⟨rfl, rfl⟩; exact ⟨rfl, hS⟩
  try simp only [List.getElem_toArray, List.getElem_cons_zero, List.getElem_cons_succ, Act.put, List.setIfInBounds_toArray, List.set_cons_zero, List.set_cons_succ]
  refine wpU_take (i := 13) (v := ?_) rfl (by kernel_rfl) (by kernel_rfl) (by kernel_rfl) (by kernel_rfl) (fun _ _ _ h => h) (by rfl) ?_ ?_
  rotate_left
  · intro wx hS; refine lands_value ?_ hS; go_simp <;> with_reducible rfl
  try simp only [List.getElem_toArray, List.getElem_cons_zero, List.getElem_cons_succ, Act.put, List.setIfInBounds_toArray, List.set_cons_zero, List.set_cons_succ]
  refine wpU_take (i := 14) (v := ?_) rfl (by kernel_rfl) (by kernel_rfl) (by kernel_rfl) (by kernel_rfl) (fun _ _ _ h => h) (by rfl) ?_ ?_
  rotate_left
  · intro wx hS; refine lands_value ?_ hS; go_simp <;> with_reducible rfl
  try simp only [List.getElem_toArray, List.getElem_cons_zero, List.getElem_cons_succ, Act.put, List.setIfInBounds_toArray, List.set_cons_zero, List.set_cons_succ]
  refine wpU_take (i := 15) (v := ?_) rfl (by kernel_rfl) (by kernel_rfl) (by kernel_rfl) (by kernel_rfl) (fun _ _ _ h => h) (by rfl) ?_ ?_
  rotate_left
  · intro wx hS; refine lands_value ?_ hS; go_simp <;> with_reducible rfl
  try simp only [List.getElem_toArray, List.getElem_cons_zero, List.getElem_cons_succ, Act.put, List.setIfInBounds_toArray, List.set_cons_zero, List.set_cons_succ]
  refine wpU_take (i := 16) (v := .int .i64 0) rfl (by kernel_rfl) (by kernel_rfl) (by kernel_rfl) (by kernel_rfl) (fun _ _ _ h => h) (by rfl) ?_ ?_
  · intro wx hS; refine lands_enter (w := wx) (f := 62) (args := #[.pointer (some ⟨M.b, 2, none⟩)]) (by go_simp) ?_; refine (iMark_zero M wx hS.1).mono ?_; rintro e w2 ⟨rfl, rfl⟩; exact ⟨rfl, hS⟩
  try simp only [List.getElem_toArray, List.getElem_cons_zero, List.getElem_cons_succ, Act.put, List.setIfInBounds_toArray, List.set_cons_zero, List.set_cons_succ]
  refine wpU_take (i := 17) (v := ?_) rfl (by kernel_rfl) (by kernel_rfl) (by kernel_rfl) (by kernel_rfl) (fun _ _ _ h => h) (by rfl) ?_ ?_
  rotate_left
  · intro wx hS; refine lands_value ?_ hS; go_simp <;> with_reducible rfl
  try simp only [List.getElem_toArray, List.getElem_cons_zero, List.getElem_cons_succ, Act.put, List.setIfInBounds_toArray, List.set_cons_zero, List.set_cons_succ]
  refine wpU_take (i := 18) (v := ?_) rfl (by kernel_rfl) (by kernel_rfl) (by kernel_rfl) (by kernel_rfl) (fun _ _ _ h => h) (by rfl) ?_ ?_
  rotate_left
  · intro wx hS; refine lands_value ?_ hS; go_simp <;> with_reducible rfl
  try simp only [List.getElem_toArray, List.getElem_cons_zero, List.getElem_cons_succ, Act.put, List.setIfInBounds_toArray, List.set_cons_zero, List.set_cons_succ]
  refine wpU_take (i := 19) (v := ?_) rfl (by kernel_rfl) (by kernel_rfl) (by kernel_rfl) (by kernel_rfl) (fun _ _ _ h => h) (by rfl) ?_ ?_
  rotate_left
  · intro wx hS; refine lands_value ?_ hS; go_simp <;> with_reducible rfl
  try simp only [List.getElem_toArray, List.getElem_cons_zero, List.getElem_cons_succ, Act.put, List.setIfInBounds_toArray, List.set_cons_zero, List.set_cons_succ]
  refine wpU_take (i := 20) (v := ?_) rfl (by kernel_rfl) (by kernel_rfl) (by kernel_rfl) (by kernel_rfl) (fun _ _ _ h => h) (by rfl) ?_ ?_
  rotate_left
  · intro wx hS; have c1 := hS.1.row.cell' (i := 1) (v := .int .i64 M.taken) rfl; refine lands_value ?_ hS; go_simp <;> with_reducible rfl
  try simp only [List.getElem_toArray, List.getElem_cons_zero, List.getElem_cons_succ, Act.put, List.setIfInBounds_toArray, List.set_cons_zero, List.set_cons_succ]
  refine wpU_take (i := 21) (v := ?_) rfl (by kernel_rfl) (by kernel_rfl) (by kernel_rfl) (by kernel_rfl) (fun _ _ _ h => h) (by rfl) ?_ ?_
  rotate_left
  · intro wx hS; refine lands_value ?_ hS; go_simp <;> with_reducible rfl
  try simp only [List.getElem_toArray, List.getElem_cons_zero, List.getElem_cons_succ, Act.put, List.setIfInBounds_toArray, List.set_cons_zero, List.set_cons_succ]
  refine wpU_take (i := 22) (v := .int .i64 0) rfl (by kernel_rfl) (by kernel_rfl) (by kernel_rfl) (by kernel_rfl) (fun _ _ _ h => h) (by rfl) ?_ ?_
  · intro wx hS; refine lands_enter (w := wx) (f := 63) (args := #[.pointer (some ⟨M.b, 0, none⟩)]) (by go_simp) ?_; refine (plive_zero M wx hS.1).mono ?_; rintro e w2 ⟨rfl, hb⟩; exact ⟨rfl, hS.1.below hb, hS.2.1.below' hb, below_on hS.2.2 hb⟩
  try simp only [List.getElem_toArray, List.getElem_cons_zero, List.getElem_cons_succ, Act.put, List.setIfInBounds_toArray, List.set_cons_zero, List.set_cons_succ]
  refine wpU_take (i := 23) (v := ?_) rfl (by kernel_rfl) (by kernel_rfl) (by kernel_rfl) (by kernel_rfl) (fun _ _ _ h => h) (by rfl) ?_ ?_
  rotate_left
  · intro wx hS; refine lands_value ?_ hS; go_simp <;> with_reducible rfl
  try simp only [List.getElem_toArray, List.getElem_cons_zero, List.getElem_cons_succ, Act.put, List.setIfInBounds_toArray, List.set_cons_zero, List.set_cons_succ]
  refine wpU_leaf' _ (by kernel_rfl) ?_
  intro wx hS
  refine wpAny_last (n := 24) (by kernel_rfl) (by kernel_rfl) rfl (by rfl) ?_
  refine wp_store_row 73 (.tmp 2) (.tmp 33) rfl w.heap.size rfl (stCells M.recs.length M.ends.length 0 0 0 M.taken 0) zeroState 73 hS.2.1 rfl rfl (by kernel_rfl) (stCells_oneCell _ _ _ _ _ _ _) ?_
  intro w9 r9 c9 s9
  have b := below_on hS.2.2 ((Below.refl wx.heap.size wx))
  have b9 : Below w.heap.size w w9 := hS.2.2.trans (c9.belowB (fun k hk => by omega) hS.2.2.size)
  have y0 := r9.cell' (i := 0) rfl
  have y1 := r9.cell' (i := 1) rfl
  have y2 := r9.cell' (i := 2) rfl
  have y3 := r9.cell' (i := 3) rfl
  have y4 := r9.cell' (i := 4) rfl
  have y5 := r9.cell' (i := 5) rfl
  have y6 := r9.cell' (i := 6) rfl
  clear r9 c9 s9 hS b H1 G1 B1 H
  simp only [Act.put]
  go_wp2
  exact bodyPost_ret (v := .agg (stCells M.recs.length M.ends.length 0 0 0 M.taken 0).toArray) (by simp [results, Tryz.results32, go_sem, y0, y1, y2, y3, y4, y5, y6, stCells]) rfl ⟨rfl, b9⟩

end Go.Proofs.YtlheloogmgmjnaaGreat
