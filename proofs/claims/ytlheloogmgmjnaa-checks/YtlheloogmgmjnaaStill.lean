import Derived.Test.YtlheloogmgmjnaaNumbers
namespace Go.Proofs.Ytlheloogmgmjnaa
open Go.RowKit

theorem ints_getD (xs : List Int) (k : Nat) (hk : k < xs.length) : (ints xs)[k]? = some (.int .i64 (xs.getD k 0)) := by
  simp [ints, List.getD, hk]

set_option maxHeartbeats 1000000 in
set_option maxRecDepth 100000 in
theorem sameNumbers_any (g : Nat) (ao : Option Addr) (cap : Nat) (xs : List Int) (w : World) (hx : IntsAt w ao xs) (hr : RowAt w g 3 (ints (xs ++ [77, 77]))) (hl : xs.length * 8 ≤ 140737488351232) :
    Calls Try.prog 22 #[.slice (some ⟨g, 0, none⟩) xs.length (xs.length + 2), .slice ao xs.length cap] w fun e w' => e = .returned (.bool true) ∧ ∃ n, w' = w.drewN n := by
  go_enter Try.func22, Try.ntmps22
  go_wp2
  go_loopw [6] (fun t wr => ∃ k : Nat, k ≤ xs.length + 2 ∧ t = .int .i64 k ∧ ∃ n, wr = w.drewN n) (fun t _ => xs.length + 2 - (intOf t).toNat)
  case atStart => exact ⟨0, by omega, rfl, 0, rfl⟩
  case round =>
    obtain ⟨k, hk, rfl, n, rfl⟩ := hrel
    by_cases hlt : k < xs.length + 2
    · have hc := hr.cell' (ints_getD (xs ++ [77, 77]) k (by simp; omega))
      by_cases hk2 : k < xs.length
      · obtain ⟨b, o, rfl, hci, _⟩ := hx.at hk2
        replace hci := hci k hk2
        have e1 : (xs ++ [77, 77]).getD k 0 = xs.getD k 0 := by simp [List.getD, List.getElem?_append_left hk2]
        rw [e1] at hc
        generalize xs.getD k 0 = y at *
        clear e1 hr hx
        have d1 : decide ((k : Int) < (xs.length : Int)) = true := by simp; omega
        have d2 : decide ((xs.length : Int) ≤ (k : Int)) = false := by simp; omega
        have d1' : decide (k < xs.length) = true := by simp; omega
        have d2' : decide (xs.length ≤ k) = false := by simp; omega
        go_wp2
        go_quiet (fail)
        go_wp2
        go_roundw
        case rel => exact ⟨k + 1, by omega, by go_num, _, rfl⟩
        case measure => simp [intOf]; omega
      · have e1 : (xs ++ [77, 77]).getD k 0 = 77 := by
          have : k = xs.length ∨ k = xs.length + 1 := by omega
          rcases this with rfl | rfl <;> simp [List.getD]
        rw [e1] at hc
        clear e1 hr hx
        have d1 : decide ((k : Int) < (xs.length : Int)) = false := by simp; omega
        have d2 : decide ((xs.length : Int) ≤ (k : Int)) = true := by simp; omega
        have d1' : decide (k < xs.length) = false := by simp; omega
        have d2' : decide (xs.length ≤ k) = true := by simp; omega
        go_wp2
        go_quiet (fail)
        go_wp2
        go_roundw
        case rel => exact ⟨k + 1, by omega, by go_num, _, rfl⟩
        case measure => simp [intOf]; omega
    · go_wp2
      go_ret
      exact ⟨rfl, _, rfl⟩

theorem insCells_lt (cs : List Ins) (k : Nat) (hk : k < cs.length) : k * 4 + 3 < (insCells cs).length := by rw [insCells_length]; omega

set_option maxHeartbeats 2000000 in
set_option maxRecDepth 100000 in
theorem still_any (g0 g1 g2 : Nat) (h : TH) (t : Tx) (w : World) (hx : TxAt w h t) (h0 : RowAt w g0 3 (ints (t.r ++ [77, 77]))) (h1 : RowAt w g1 3 (ints (t.w ++ [77, 77]))) (h2 : RowAt w g2 51 (insCells (t.c ++ [ins77, ins77]))) :
    Calls Try.prog 8 #[.agg #[.slice (some ⟨g0, 0, none⟩) t.r.length (t.r.length + 2), .slice (some ⟨g1, 0, none⟩) t.w.length (t.w.length + 2), .slice (some ⟨g2, 0, none⟩) t.c.length (t.c.length + 2)], .agg h.cells] w fun e w' => e = .returned (.bool true) ∧ Below w.heap.size w w' := by
  obtain ⟨⟨ra, rn, rc⟩, ⟨wa, wn, wc⟩, ⟨ca, cn, cc⟩⟩ := h
  obtain ⟨R, W, C⟩ := t
  obtain ⟨rl, wl, cl, b1, b2, b3, b4, b5, b6, ri, wi, ci⟩ := hx
  simp only at rl wl cl b1 b2 b3 b4 b5 b6 ri wi ci h0 h1 h2
  subst rl wl cl
  have S0 := hide (fun wx (hb : Below w.heap.size w wx) => sameNumbers_any g0 ra rc R wx (ri.below hb) (h0.below' hb) (by omega))
  have S1 := hide (fun wx (hb : Below w.heap.size w wx) => sameNumbers_any g1 wa wc W wx (wi.below hb) (h1.below' hb) (by omega))
  have CI := hide ci
  have H2 := hide h2
  clear ri wi ci h0 h1 h2
  show Calls Try.prog 8 #[.agg #[.slice (some ⟨g0, 0, none⟩) R.length (R.length + 2), .slice (some ⟨g1, 0, none⟩) W.length (W.length + 2), .slice (some ⟨g2, 0, none⟩) C.length (C.length + 2)], .agg #[.slice ra R.length rc, .slice wa W.length wc, .slice ca C.length cc]] w _
  go_enter Try.func8, Try.ntmps8
  go_wp2_with fail
  refine (S0.out _ (below_on (below_alloc1 _ _) (below_alloc1 _ _))).mono ?_
  rintro e w1 ⟨rfl, n1, rfl⟩
  go_wp2_with fail
  refine (S1.out _ (below_drewN (below_on (below_alloc1 _ _) (below_alloc1 _ _)) _)).mono ?_
  rintro e w1 ⟨rfl, n2, rfl⟩
  go_wp2
  go_loopw [8] (fun t wr => ∃ k : Nat, k ≤ C.length + 2 ∧ t = .int .i64 k ∧ wr.cell? ⟨w.heap.size + 1, 2, none⟩ = some (.slice ca C.length cc) ∧ Below w.heap.size w wr) (fun t _ => C.length + 2 - (intOf t).toNat)
  case atStart => exact ⟨0, by omega, rfl, by simp, below_drewN (below_on (below_alloc1 _ _) (below_alloc1 _ _)) _⟩
  case round =>
    obtain ⟨k, hk, rfl, hq, hb⟩ := hrel
    by_cases hlt : k < C.length + 2
    · obtain ⟨c0, c1, c2, c3⟩ := insCells_get (C ++ [ins77, ins77]) k (by simp; omega)
      have hr := H2.out.below' hb
      replace c0 := hr.cell' c0
      replace c1 := hr.cell' c1
      replace c2 := hr.cell' c2
      replace c3 := hr.cell' c3
      clear hr
      by_cases hk2 : k < C.length
      · obtain ⟨b, o, rfl, hci, _⟩ := (CI.out.below hb).at hk2
        obtain ⟨q0, q1, q2, q3⟩ := hci k hk2
        have e1 : (C ++ [ins77, ins77]).getD k Ins.zero = C.getD k Ins.zero := by simp [List.getD, List.getElem?_append_left hk2]
        rw [e1] at c0 c1 c2 c3
        generalize C.getD k Ins.zero = y at *
        obtain ⟨op, a, b', c⟩ := y
        simp only at c0 c1 c2 c3 q0 q1 q2 q3
        clear e1 hci
        have d1 : decide ((k : Int) < (C.length : Int)) = true := by simp; omega
        have d2 : decide ((C.length : Int) ≤ (k : Int)) = false := by simp; omega
        have d1' : decide (k < C.length) = true := by simp; omega
        have d2' : decide (C.length ≤ k) = false := by simp; omega
        clear S0 S1 CI H2
        go_wp2
        go_quiet (fail)
        go_wp2
        go_roundw
        case rel => exact ⟨k + 1, by omega, by go_num, by simpa using hq, below_drewN hb _⟩
        case measure => simp [intOf]; omega
      · have e1 : (C ++ [ins77, ins77]).getD k Ins.zero = ins77 := by
          have : k = C.length ∨ k = C.length + 1 := by omega
          rcases this with rfl | rfl <;> simp [List.getD]
        rw [e1] at c0 c1 c2 c3
        simp only [ins77] at c0 c1 c2 c3
        clear e1
        have d1 : decide ((k : Int) < (C.length : Int)) = false := by simp; omega
        have d2 : decide ((C.length : Int) ≤ (k : Int)) = true := by simp; omega
        have d1' : decide (k < C.length) = false := by simp; omega
        have d2' : decide (C.length ≤ k) = true := by simp; omega
        clear S0 S1 CI H2
        go_wp2
        go_quiet (fail)
        go_wp2
        go_roundw
        case rel => exact ⟨k + 1, by omega, by go_num, by simpa using hq, below_drewN hb _⟩
        case measure => simp [intOf]; omega
    · go_wp2
      go_ret
      exact ⟨rfl, hb⟩

end Go.Proofs.Ytlheloogmgmjnaa
