import Derived.Test.YtlheloogmgmjnaaGreatT06
import Derived.Test.YtlheloogmgmjnaaGreatT03
namespace Go.Proofs.YtlheloogmgmjnaaGreat
open Go.RowKit

theorem unsound_take (t : Tx) (k : Nat) (hk : k < t.c.length) (h : soundB (t.c.getD k Ins.zero) t.r.length t.w.length = false) : unsoundB t = true :=
  any_of_take t.c (fun x => !soundB x t.r.length t.w.length) Ins.zero hk (by show (!soundB _ _ _) = true; rw [h]; rfl)

set_option maxHeartbeats 2000000 in
set_option maxRecDepth 100000 in
theorem rCheck_any (h : TH) (t : Tx) (w : World) (hx : TxAt w h t) :
    Calls Tryz.prog 114 #[.agg h.cells] w fun e w' => e = .returned (.int .i64 (checkN t)) ∧ Below w.heap.size w w' := by
  have NR := hide (fun wx (hb : Below w.heap.size w wx) => rkeys_any h.r.a h.r.c t.r wx (hx.ri.below hb) (by have := hx.rl; have := hx.rc; have := hx.rb; omega))
  have NW := hide (fun wx (hb : Below w.heap.size w wx) => rkeys_any h.w.a h.w.c t.w wx (hx.wi.below hb) (by have := hx.wl; have := hx.wc; have := hx.wb; omega))
  have TR := hide (fun wx (hb : Below w.heap.size w wx) => rapart_any h.r.a h.r.c t.r wx (hx.ri.below hb) (by have := hx.rl; have := hx.rc; have := hx.rb; omega))
  have TW := hide (fun wx (hb : Below w.heap.size w wx) => rapart_any h.w.a h.w.c t.w wx (hx.wi.below hb) (by have := hx.wl; have := hx.wc; have := hx.wb; omega))
  have hC : checkN t = checkN t := rfl
  conv at hC => rhs; unfold checkN
  have CI := hide hx.ci
  have US := hide (unsound_take t)
  have UA := hide (show unsoundB t = t.c.any fun x => !soundB x t.r.length t.w.length from rfl)
  have hL : longB t = decide ((30 : Int) < (t.c.length : Int) ∨ (6 : Int) < (t.r.length : Int) ∨ (6 : Int) < (t.w.length : Int)) := by simp only [longB, decide_eq_decide]; omega
  have HL := hide hL
  clear hL
  have cb := hx.cb; have ccl := hx.cc
  generalize longB t = l at *
  generalize unsoundB t = u at *
  generalize (t.r.any fun n => !bel n 24) = nr at *
  generalize (t.w.any fun n => !bel n 24) = nw at *
  generalize twiceTo t.r t.r.length = tr at *
  generalize twiceTo t.w t.w.length = tw at *
  rw [hC]
  clear hC
  have rl := hx.rl; have wl := hx.wl; have cl := hx.cl
  clear hx
  obtain ⟨⟨ra, rn, rc⟩, ⟨wa, wn, wc⟩, ⟨ca, cn, cc⟩⟩ := h
  obtain ⟨R, W, C⟩ := t
  simp only at rl wl cl cb ccl NR NW TR TW CI US UA HL
  subst rl wl cl
  show Calls Tryz.prog 114 #[.agg #[.slice ra R.length rc, .slice wa W.length wc, .slice ca C.length cc]] w _
  by_cases h1 : (30 : Int) < (C.length : Int)
  · have hl : l = true := by rw [HL.out]; simp [h1]
    subst hl
    go_enter Tryz.func114, Tryz.ntmps114
    go_wp2
    go_ret
    exact ⟨rfl, below_alloc1 _ _⟩
  by_cases h2 : (6 : Int) < (R.length : Int)
  · have hl : l = true := by rw [HL.out]; simp [h2]
    subst hl
    go_enter Tryz.func114, Tryz.ntmps114
    go_wp2
    go_ret
    exact ⟨rfl, below_alloc1 _ _⟩
  by_cases h3 : (6 : Int) < (W.length : Int)
  · have hl : l = true := by rw [HL.out]; simp [h3]
    subst hl
    go_enter Tryz.func114, Tryz.ntmps114
    go_wp2
    go_ret
    exact ⟨rfl, below_alloc1 _ _⟩
  have hl : l = false := by rw [HL.out]; simp [h1, h2, h3]
  subst hl
  clear HL
  cases nr
  rotate_left
  · go_enter Tryz.func114, Tryz.ntmps114
    go_wp2_with fail
    refine (NR.out _ (below_alloc1 _ _)).mono ?_
    rintro e w1 ⟨rfl, rfl⟩
    go_wp2_with fail
    refine (NW.out _ (below_alloc1 _ _)).mono ?_
    rintro e w1 ⟨rfl, rfl⟩
    go_wp2
    go_ret
    exact ⟨rfl, below_alloc1 _ _⟩
  cases nw
  rotate_left
  · go_enter Tryz.func114, Tryz.ntmps114
    go_wp2_with fail
    refine (NR.out _ (below_alloc1 _ _)).mono ?_
    rintro e w1 ⟨rfl, rfl⟩
    go_wp2_with fail
    refine (NW.out _ (below_alloc1 _ _)).mono ?_
    rintro e w1 ⟨rfl, rfl⟩
    go_wp2
    go_ret
    exact ⟨rfl, below_alloc1 _ _⟩
  cases tr
  rotate_left
  · go_enter Tryz.func114, Tryz.ntmps114
    go_wp2_with fail
    refine (NR.out _ (below_alloc1 _ _)).mono ?_
    rintro e w1 ⟨rfl, rfl⟩
    go_wp2_with fail
    refine (NW.out _ (below_alloc1 _ _)).mono ?_
    rintro e w1 ⟨rfl, rfl⟩
    go_wp2_with fail
    refine (TR.out _ (below_alloc1 _ _)).mono ?_
    rintro e w1 ⟨rfl, n1, rfl⟩
    go_wp2_with fail
    refine (TW.out _ (below_drewN (below_alloc1 _ _) _)).mono ?_
    rintro e w1 ⟨rfl, n2, rfl⟩
    go_wp2
    go_ret
    exact ⟨rfl, below_drewN (below_alloc1 _ _) _⟩
  cases tw
  rotate_left
  · go_enter Tryz.func114, Tryz.ntmps114
    go_wp2_with fail
    refine (NR.out _ (below_alloc1 _ _)).mono ?_
    rintro e w1 ⟨rfl, rfl⟩
    go_wp2_with fail
    refine (NW.out _ (below_alloc1 _ _)).mono ?_
    rintro e w1 ⟨rfl, rfl⟩
    go_wp2_with fail
    refine (TR.out _ (below_alloc1 _ _)).mono ?_
    rintro e w1 ⟨rfl, n1, rfl⟩
    go_wp2_with fail
    refine (TW.out _ (below_drewN (below_alloc1 _ _) _)).mono ?_
    rintro e w1 ⟨rfl, n2, rfl⟩
    go_wp2
    go_ret
    exact ⟨rfl, below_drewN (below_alloc1 _ _) _⟩
  go_enter Tryz.func114, Tryz.ntmps114
  go_wp2_with fail
  refine (NR.out _ (below_alloc1 _ _)).mono ?_
  rintro e w1 ⟨rfl, rfl⟩
  go_wp2_with fail
  refine (NW.out _ (below_alloc1 _ _)).mono ?_
  rintro e w1 ⟨rfl, rfl⟩
  go_wp2_with fail
  refine (TR.out _ (below_alloc1 _ _)).mono ?_
  rintro e w1 ⟨rfl, n1, rfl⟩
  go_wp2_with fail
  refine (TW.out _ (below_drewN (below_alloc1 _ _) _)).mono ?_
  rintro e w1 ⟨rfl, n2, rfl⟩
  go_wp2
  clear NR NW TR TW
  go_loopw [5] (fun t wr => ∃ k : Nat, k ≤ C.length ∧ t = .int .i64 k ∧ (C.take k).any (fun x => !soundB x R.length W.length) = false ∧ RowAt wr w.heap.size 33 [.slice ra R.length rc, .slice wa W.length wc, .slice ca C.length cc] ∧ Below w.heap.size w wr) (fun t _ => C.length - (intOf t).toNat)
  case atStart => exact ⟨0, Nat.zero_le _, rfl, by simp, (rowAt_alloc w [.slice ra R.length rc, .slice wa W.length wc, .slice ca C.length cc] 33).drewN _, below_drewN (below_alloc1 _ _) _⟩
  case round =>
    obtain ⟨k, hk, rfl, hn, hq, hb⟩ := hrel
    have q0 := hq.cell' (i := 0) rfl
    have q1 := hq.cell' (i := 1) rfl
    have q2 := hq.cell' (i := 2) rfl
    have HQ := hide hq
    clear hq
    by_cases hlt : k < C.length
    · obtain ⟨b, o, rfl, hc, _⟩ := (CI.out.below hb).at hlt
      obtain ⟨k0, k1, k2, k3⟩ := hc k hlt
      have hs := any_take_succ C (fun x => !soundB x R.length W.length) Ins.zero hlt
      have ha := US.out k hlt
      generalize C.getD k Ins.zero = y at *
      rw [hn] at hs
      have HS := hide hs; have HA := hide ha
      clear hs ha hn hc US UA CI
      have SS := hide (fun wx => rSound_any y ra wa (some ⟨b, o, none⟩) R.length rc W.length wc C.length cc wx)
      obtain ⟨op, a, b', c⟩ := y
      simp only at k0 k1 k2 k3
      generalize hr : soundB ⟨op, a, b', c⟩ R.length W.length = r at *
      clear hr
      have HB := hide hb
      have KL : Hid (∀ w', Below wr.heap.size wr w' → (w'.cell? ⟨w.heap.size, 0, none⟩ = some (.slice ra R.length rc) ∧ w'.cell? ⟨w.heap.size, 1, none⟩ = some (.slice wa W.length wc) ∧ w'.cell? ⟨w.heap.size, 2, none⟩ = some (.slice (some ⟨b, o, none⟩) C.length cc) ∧
          w'.cell? ⟨b, o + k * 4, none⟩ = some (.int .i64 op) ∧ w'.cell? ⟨b, o + k * 4 + 1, none⟩ = some (.int .i64 a) ∧ w'.cell? ⟨b, o + k * 4 + 2, none⟩ = some (.int .i64 b') ∧ w'.cell? ⟨b, o + k * 4 + 3, none⟩ = some (.int .i64 c) ∧ Below wr.heap.size wr w')) := fun w' hB =>
        ⟨cell_below hB (Nat.le_refl _) q0, cell_below hB (Nat.le_refl _) q1, cell_below hB (Nat.le_refl _) q2, cell_below hB (Nat.le_refl _) k0, cell_below hB (Nat.le_refl _) k1, cell_below hB (Nat.le_refl _) k2, cell_below hB (Nat.le_refl _) k3, hB⟩
      clear hb
      go_wp2
      go_region_held (fun w' => w'.cell? ⟨w.heap.size, 0, none⟩ = some (.slice ra R.length rc) ∧ w'.cell? ⟨w.heap.size, 1, none⟩ = some (.slice wa W.length wc) ∧ w'.cell? ⟨w.heap.size, 2, none⟩ = some (.slice (some ⟨b, o, none⟩) C.length cc) ∧
          w'.cell? ⟨b, o + k * 4, none⟩ = some (.int .i64 op) ∧ w'.cell? ⟨b, o + k * 4 + 1, none⟩ = some (.int .i64 a) ∧ w'.cell? ⟨b, o + k * 4 + 2, none⟩ = some (.int .i64 b') ∧ w'.cell? ⟨b, o + k * 4 + 3, none⟩ = some (.int .i64 c) ∧ Below wr.heap.size wr w')
        (first | (refine KL.out _ ?_; exact (Below.refl _ _).drew) | (refine KL.out _ ?_; exact m2))
        (first | (go_at_call 155; refine (SS.out _).mono ?_; rintro e w2 ⟨rfl, hb2⟩; have m2 : Below wr.heap.size wr w2 := ((Below.refl _ _).drew).trans hb2))
      cases r
      · have hu := HA.out rfl
        subst hu
        go_wp2
        go_ret
        exact ⟨rfl, below_on HB.out m2⟩
      · go_wp2
        go_roundw
        case rel => exact ⟨k + 1, by omega, by go_num, by rw [HS.out]; rfl, HQ.out.below' m2, below_on HB.out m2⟩
        case measure => simp [intOf]; omega
    · rw [List.take_of_length_le (by omega)] at hn
      have hu : u = false := by rw [UA.out]; exact hn
      subst hu
      clear hn
      go_wp2
      go_ret
      exact ⟨rfl, hb⟩

end Go.Proofs.YtlheloogmgmjnaaGreat
