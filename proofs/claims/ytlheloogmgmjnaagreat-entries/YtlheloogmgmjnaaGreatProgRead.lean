import Derived.Test.YtlheloogmgmjnaaGreatProgMem
import Derived.Test.YtlheloogmgmjnaaGreatSteady
import Derived.Test.YtlheloogmgmjnaaGreatStoreRow
import Derived.Laws.IdiomRangeMap
namespace Go.Proofs.YtlheloogmgmjnaaGreat
open Go.RowKit

theorem PM.lastOf_all (M : PM) : M.lastOf M.ends.length = M.closed := by
  unfold PM.lastOf PM.closed
  split
  · rename_i h; rw [List.eq_nil_of_length_eq_zero h]; simp
  · rfl

set_option maxHeartbeats 1000000 in
set_option maxRecDepth 100000 in
theorem iClosed_any (M : PM) (w : World) (h : PAt w M) :
    Calls Tryz.prog 84 #[.pointer (some ⟨M.b, 2, none⟩)] w fun e w' => e = .returned (.int .i64 M.closed) ∧ w' = w := by
  have c3 := h.row.cell' (i := 3) (v := .slice M.enS.a M.enS.n M.enS.c) rfl
  rw [h.enn] at c3
  have LO := hide (ilastOf_any M w h M.ends.length (Nat.le_refl _))
  rw [PM.lastOf_all] at LO
  clear h
  go_enter Tryz.func84, Tryz.ntmps84
  go_wp2_with (go_at_call 120; refine LO.out.mono ?_; rintro e w' ⟨rfl, rfl⟩)
  go_ret
  exact ⟨rfl, rfl⟩

set_option maxHeartbeats 1000000 in
set_option maxRecDepth 100000 in
theorem iopen_any (M : PM) (w : World) (h : PAt w M) :
    Calls Tryz.prog 106 #[.pointer (some ⟨M.b, 2, none⟩)] w fun e w' => e = .returned (.int .i64 (M.recs.length - M.closed : Nat)) ∧ ∃ n, w' = w.drewN n := by
  have c2 := h.row.cell' (i := 2) (v := .slice M.rcS.a M.rcS.n M.rcS.c) rfl
  rw [h.rcn] at c2
  have CL := hide (fun n => iClosed_any M (w.drewN n) (h.drewN n))
  have hcl := h.closed_le
  have ht := h.txns
  clear h
  generalize M.closed = C at *
  go_enter Tryz.func106, Tryz.ntmps106
  go_wp2
  go_quiet ((go_at_call 84; exact Calls.quiet_of_same (CL.out _)))
  go_wp2
  go_ret
  exact ⟨ret_int (by omega), _, rfl⟩

set_option maxHeartbeats 1000000 in
set_option maxRecDepth 100000 in
theorem iWhole_zero (M : PM) (w : World) (h : PAt w M) :
    Calls Tryz.prog 103 #[.pointer (some ⟨M.b, 2, none⟩), .int .i64 0] w fun e w' => e = .returned (.tuple #[.int .i64 0, .int .i64 0]) ∧ w' = w := by
  have c3 := h.row.cell' (i := 3) (v := .slice M.enS.a M.enS.n M.enS.c) rfl
  rw [h.enn] at c3
  have hI := h.en.ints
  have hE := h.endsle
  have ht := h.txns
  have ht1 := h.ends1
  have LO := hide (ilastOf_any M w h 0 (Nat.zero_le _))
  rw [show M.lastOf 0 = 0 from rfl] at LO
  clear h
  go_enter Tryz.func103, Tryz.ntmps103
  go_wp2
  go_loop [4] (fun t => t = .int .i64 0) (fun _ => 0)
  case atStart => rfl
  case round =>
    subst hrel
    by_cases h0 : 0 < M.ends.length
    · obtain ⟨b, o, hb, hc, _⟩ := hI.at (k := 0) (by simp [nats]; omega)
      have hck := hc 0 (by simp [nats]; omega)
      have hv : (nats M.ends).getD 0 0 = (M.ends.getD 0 0 : Nat) := by simp [nats, List.getD, List.getElem?_map]; rcases M.ends[0]? <;> rfl
      rw [hv, Nat.add_zero] at hck
      have h1 : 1 ≤ M.ends.getD 0 0 := by rw [nat_get h0]; exact (hE _ (List.getElem_mem h0)).1
      rw [hb] at c3
      generalize M.ends.getD 0 0 = v at *
      have hd : decide ((v : Int) ≤ 0) = false := by simp; omega
      have hl : decide ((0 : Int) < (M.ends.length : Int)) = true := by simp; omega
      have hl' : (0 : Int) < (M.ends.length : Int) := by omega
      clear hc hI hb hv hE
      go_wp2_with (go_at_call 120; refine LO.out.mono ?_; rintro e w' ⟨rfl, rfl⟩)
      go_ret2
      exact ⟨rfl, rfl⟩
    · have h00 : M.ends.length = 0 := by omega
      rw [h00] at c3
      clear hI hE
      go_wp2_with (go_at_call 120; refine LO.out.mono ?_; rintro e w' ⟨rfl, rfl⟩)
      go_ret2
      exact ⟨rfl, rfl⟩

set_option maxHeartbeats 1000000 in
set_option maxRecDepth 100000 in
theorem iDone_zero (M : PM) (w : World) (h : PAt w M) :
    Calls Tryz.prog 61 #[.pointer (some ⟨M.b, 2, none⟩)] w fun e w' => e = .returned (.int .i64 0) ∧ w' = w := by
  have c2 := h.row.cell' (i := 2) (v := .slice M.rcS.a M.rcS.n M.rcS.c) rfl
  rw [h.rcn] at c2
  have ht := h.txns
  have hc : 0 < M.recs.length → ∃ g, M.rcS.a = some ⟨g, 0, none⟩ ∧ w.cell? ⟨g, 3, none⟩ = some (.bool false) := by
    intro h0
    obtain ⟨r, rs, hr⟩ : ∃ r rs, M.recs = r :: rs := by
      cases hq : M.recs with
      | nil => rw [hq] at h0; simp at h0
      | cons r rs => exact ⟨r, rs, rfl⟩
    refine h.rc.cell (i := 3) ?_
    rw [hr]
    simp [PRec.row, h.fresh r (by rw [hr]; simp)]
  clear h
  go_enter Tryz.func61, Tryz.ntmps61
  go_wp2
  go_loop [3] (fun t => t = .int .i64 0) (fun _ => 0)
  case atStart => rfl
  case round =>
    subst hrel
    by_cases h0 : 0 < M.recs.length
    · obtain ⟨g, hg, hck⟩ := hc h0
      rw [hg] at c2
      have hl : decide ((0 : Int) < (M.recs.length : Int)) = true := by simp; omega
      have hl' : (0 : Int) < (M.recs.length : Int) := by omega
      clear hc hg
      go_wp2
      go_ret
      exact ⟨rfl, rfl⟩
    · have h00 : M.recs.length = 0 := by omega
      rw [h00] at c2
      clear hc
      go_wp2
      go_ret
      exact ⟨rfl, rfl⟩

set_option maxHeartbeats 1000000 in
theorem iMark_zero (M : PM) (w : World) (h : PAt w M) :
    Calls Tryz.prog 62 #[.pointer (some ⟨M.b, 2, none⟩)] w fun e w' => e = .returned (.int .i64 0) ∧ w' = w := by
  have DN := hide (iDone_zero M w h)
  have WH := hide (iWhole_zero M w h)
  clear h
  go_enter Tryz.func62, Tryz.ntmps62
  go_wp2_with (first | (go_at_call 61; refine DN.out.mono ?_; rintro e w' ⟨rfl, rfl⟩) | (go_at_call 103; refine WH.out.mono ?_; rintro e w' ⟨rfl, rfl⟩))
  go_ret
  exact ⟨rfl, rfl⟩

theorem Tryz.underlying124 : Tryz.prog.underlying 124 = some (.map 3 175) := by kernel_rfl

set_option maxHeartbeats 1000000 in
set_option maxRecDepth 100000 in
theorem mLive_empty (g : Nat) (w : World) (h : w.heap[g]? = some (.map #[] 0)) :
    Calls Tryz.prog 104 #[.map (some g)] w fun e w' => e = .returned (.int .i64 0) ∧ Below w.heap.size w w' := by
  have hrg := run_range_map (P := Tryz.prog) w 124 3 175 g #[] 0 Tryz.underlying124 h
  have law := run_next_map (P := Tryz.prog) w 0 g 0 0 #[] #[] 0 h (by simp) (Nat.le_refl _)
  rcases law with ⟨_, hrun⟩ | ⟨e, he, _⟩
  · have hnx : ∀ ty, (Instr.next (.pointer (some ⟨w.heap.size, 0, none⟩)) false ty).run Tryz.prog (w.alloc (.mapIter (some g) 0 #[] 0)) = _ := fun _ => hrun
    clear hrun h
    go_enter Tryz.func104, Tryz.ntmps104
    go_wp2
    refine wp_loop_rounds 1 ?_
    rw [rounds_succ]
    go_wp2
    go_ret
    exact ⟨rfl, below_alloc1 _ _⟩
  · simp [leftOf] at he

end Go.Proofs.YtlheloogmgmjnaaGreat
