import Derived.Test.YtlheloogmgmjnaaGreatIsSound
namespace Go.Proofs.YtlheloogmgmjnaaGreat
open Go.RowKit

set_option maxHeartbeats 400000 in
theorem hasUnsound1_any (x : Ins) (b o : Nat) (ra wa : Option Addr) (rn rc wn wc : Nat) (w : World) (h0 : w.cell? ⟨b, o, none⟩ = some (.slice ra rn rc)) (h1 : w.cell? ⟨b, o + 1, none⟩ = some (.slice wa wn wc)) :
    Calls Tryz.prog 151 #[x.val, .pointer (some ⟨b, o, none⟩)] w fun e w' => e = .returned (.bool (!soundB x rn wn)) ∧ Below w.heap.size w w' := by
  obtain ⟨op, a, b', c⟩ := x
  have hb := lt_of_cell h0
  show Calls Tryz.prog 151 #[.agg #[.int .i64 op, .int .i64 a, .int .i64 b', .int .i64 c], .pointer (some ⟨b, o, none⟩)] w _
  go_enter Tryz.func151, Tryz.ntmps151
  go_wp2_with fail
  refine (isSound_any ⟨op, a, b', c⟩ _ _ _).mono ?_
  rintro e w' ⟨rfl, hw⟩
  generalize hr : soundB ⟨op, a, b', c⟩ rn wn = r
  have HR := hide hr
  clear hr
  go_wp2
  go_ret
  exact ⟨ret_bool (by rw [HR.out]), below_alloc hw⟩

set_option maxHeartbeats 1000000 in
theorem IndexFuncX_any (ao : Option Addr) (cap : Nat) (xs : List Ins) (b1 o1 : Nat) (ra wa : Option Addr) (rn rc wn wc : Nat) (w : World) (hx : InsAt w ao xs) (hl : xs.length * 32 ≤ 140737488351232)
    (h0 : w.cell? ⟨b1, o1, none⟩ = some (.slice ra rn rc)) (h1 : w.cell? ⟨b1, o1 + 1, none⟩ = some (.slice wa wn wc)) :
    Calls Tryz.prog 180 #[.slice ao xs.length cap, .func (.func 151) #[] #[.pointer (some ⟨b1, o1, none⟩)]] w fun e w' => (∃ v : Int, e = .returned (.int .i64 v) ∧ decide (0 ≤ v) = xs.any fun x => !soundB x rn wn) ∧ Below w.heap.size w w' := by
  go_enter Tryz.func180, Tryz.ntmps180
  go_wp2
  go_loopw [8] (fun t wr => ∃ k : Nat, k ≤ xs.length ∧ t = .int .i64 k ∧ (xs.take k).any (fun x => !soundB x rn wn) = false ∧ Below w.heap.size w wr) (fun t _ => xs.length - (intOf t).toNat)
  case atStart => exact ⟨0, Nat.zero_le _, rfl, by simp, Below.refl _ _⟩
  case round =>
    obtain ⟨k, hk, rfl, hn, hb⟩ := hrel
    by_cases hlt : k < xs.length
    · obtain ⟨b, o, rfl, hc, _⟩ := (hx.below hb).at hlt
      obtain ⟨k0, k1, k2, k3⟩ := hc k hlt
      have hs := any_take_succ xs (fun x => !soundB x rn wn) Ins.zero hlt
      have ha := any_of_take xs (fun x => !soundB x rn wn) Ins.zero hlt
      generalize xs.getD k Ins.zero = y at *
      rw [hn] at hs
      have HS := hide hs; have HA := hide ha
      have q0 := cell_below hb (Nat.le_refl _) h0
      have q1 := cell_below hb (Nat.le_refl _) h1
      have QQ := hide (hasUnsound1_any y b1 o1 ra wa rn rc wn wc wr q0 q1)
      clear hs ha hn hc hx q0 q1 h0 h1
      obtain ⟨op, a, b', c⟩ := y
      simp only at k0 k1 k2 k3
      generalize hr : soundB ⟨op, a, b', c⟩ rn wn = r at *
      clear hr
      cases r
      · go_wp2_with (go_at_call 151; refine QQ.out.mono ?_; rintro e w' ⟨rfl, hw⟩)
        go_ret
        exact ⟨⟨_, rfl, by rw [HA.out (by simp)]; simp⟩, below_on hb hw⟩
      · go_wp2_with (go_at_call 151; refine QQ.out.mono ?_; rintro e w' ⟨rfl, hw⟩)
        go_roundw
        case rel => exact ⟨k + 1, by omega, by go_num, by rw [HS.out]; rfl, below_on hb hw⟩
        case measure => simp [intOf]; omega
    · go_wp2
      go_ret
      refine ⟨⟨_, rfl, ?_⟩, hb⟩
      rw [List.take_of_length_le (by omega)] at hn
      rw [hn]; rfl

set_option maxHeartbeats 400000 in
theorem ContainsFuncX_any (ao : Option Addr) (cap : Nat) (xs : List Ins) (b1 o1 : Nat) (ra wa : Option Addr) (rn rc wn wc : Nat) (w : World) (hx : InsAt w ao xs) (hl : xs.length * 32 ≤ 140737488351232)
    (h0 : w.cell? ⟨b1, o1, none⟩ = some (.slice ra rn rc)) (h1 : w.cell? ⟨b1, o1 + 1, none⟩ = some (.slice wa wn wc)) :
    Calls Tryz.prog 150 #[.slice ao xs.length cap, .func (.func 151) #[] #[.pointer (some ⟨b1, o1, none⟩)]] w fun e w' => e = .returned (.bool (xs.any fun x => !soundB x rn wn)) ∧ Below w.heap.size w w' := by
  go_enter Tryz.func150, Tryz.ntmps150
  go_wp2_with fail
  refine (IndexFuncX_any ao cap xs b1 o1 ra wa rn rc wn wc _ hx hl h0 h1).mono ?_
  rintro e w' ⟨⟨v, rfl, hv⟩, hw⟩
  have HV := hide hv
  clear hv
  go_wp2
  go_ret
  exact ⟨by rw [← HV.out]; rfl, hw⟩

def unsoundB (t : Tx) : Bool := t.c.any fun x => !soundB x t.r.length t.w.length

set_option maxHeartbeats 400000 in
theorem hasUnsound_any (h : TH) (t : Tx) (w : World) (hx : TxAt w h t) :
    Calls Tryz.prog 110 #[.agg h.cells] w fun e w' => e = .returned (.bool (unsoundB t)) ∧ Below w.heap.size w w' := by
  obtain ⟨⟨ra, rn, rc⟩, ⟨wa, wn, wc⟩, ⟨ca, cn, cc⟩⟩ := h
  obtain ⟨R, W, C⟩ := t
  obtain ⟨rl, wl, cl, b1, b2, b3, b4, b5, b6, ri, wi, ci⟩ := hx
  simp only at rl wl cl b1 b2 b3 b4 b5 b6 ri wi ci
  subst rl wl cl
  show Calls Tryz.prog 110 #[.agg #[.slice ra R.length rc, .slice wa W.length wc, .slice ca C.length cc]] w _
  go_enter Tryz.func110, Tryz.ntmps110
  go_wp2_with fail
  refine (ContainsFuncX_any ca cc C w.heap.size 0 ra wa R.length rc W.length wc _ (ci.below (below_alloc1 _ _)) (by omega) (by simp) (by simp)).mono ?_
  rintro e w' ⟨rfl, hw⟩
  generalize hr : (C.any fun x => !soundB x R.length W.length) = r
  have HR := hide hr
  clear hr
  go_wp2
  go_ret
  exact ⟨ret_bool HR.out.symm, below_alloc hw⟩

/-- P3, as the two sides have it. -/
def checkN (t : Tx) : Int :=
  if longB t then 2
  else if (t.r.any fun n => !bel n 24) || (t.w.any fun n => !bel n 24) then 3
  else if twiceTo t.r t.r.length || twiceTo t.w t.w.length then 4
  else if unsoundB t then 5
  else 0

set_option maxHeartbeats 1000000 in
theorem Fault_any (h : TH) (t : Tx) (w : World) (hx : TxAt w h t) :
    Calls Tryz.prog 69 #[.agg h.cells] w fun e w' => e = .returned (.int .i64 (checkN t)) ∧ Below w.heap.size w w' := by
  have L := hide (fun wx (hb : Below w.heap.size w wx) => isLong_any h t wx (hx.below hb))
  have U := hide (fun wx (hb : Below w.heap.size w wx) => hasUnsound_any h t wx (hx.below hb))
  have NR := hide (fun wx (hb : Below w.heap.size w wx) => hasNoKey_any h.r.a h.r.c t.r wx (hx.ri.below hb) (by have := hx.rl; have := hx.rc; have := hx.rb; omega))
  have NW := hide (fun wx (hb : Below w.heap.size w wx) => hasNoKey_any h.w.a h.w.c t.w wx (hx.wi.below hb) (by have := hx.wl; have := hx.wc; have := hx.wb; omega))
  have TR := hide (fun wx (hb : Below w.heap.size w wx) => hasTwice_any h.r.a h.r.c t.r wx (hx.ri.below hb) (by have := hx.rl; have := hx.rc; have := hx.rb; omega) (by have := hx.rl; have := hx.rc; omega))
  have TW := hide (fun wx (hb : Below w.heap.size w wx) => hasTwice_any h.w.a h.w.c t.w wx (hx.wi.below hb) (by have := hx.wl; have := hx.wc; have := hx.wb; omega) (by have := hx.wl; have := hx.wc; omega))
  have hC : checkN t = checkN t := rfl
  conv at hC => rhs; unfold checkN
  generalize longB t = l at *
  generalize unsoundB t = u at *
  generalize (t.r.any fun n => !bel n 24) = nr at *
  generalize (t.w.any fun n => !bel n 24) = nw at *
  generalize twiceTo t.r t.r.length = tr at *
  generalize twiceTo t.w t.w.length = tw at *
  rw [hC]
  clear hC
  have rl := hx.rl; have wl := hx.wl
  clear hx
  obtain ⟨⟨ra, rn, rc⟩, ⟨wa, wn, wc⟩, ⟨ca, cn, cc⟩⟩ := h
  simp only at rl wl
  subst rl wl
  simp only [TH.cells] at L U NR NW TR TW
  show Calls Tryz.prog 69 #[.agg #[.slice ra t.r.length rc, .slice wa t.w.length wc, .slice ca cn cc]] w _
  cases l
  rotate_left
  · go_enter Tryz.func69, Tryz.ntmps69
    go_wp2_with fail
    refine (L.out _ (below_alloc1 _ _)).mono ?_
    rintro e w1 ⟨rfl, hw⟩
    have hc := (bcell hw).1
    go_wp2
    go_ret
    exact ⟨rfl, below_alloc hw⟩
  cases nr
  rotate_left
  · go_enter Tryz.func69, Tryz.ntmps69
    go_wp2_with fail
    refine (L.out _ (below_alloc1 _ _)).mono ?_
    rintro e w1 ⟨rfl, hw⟩
    have hc := (bcell hw).1
    go_wp2_with fail
    refine (NR.out _ (below_alloc hw)).mono ?_
    rintro e w2 ⟨rfl, rfl⟩
    go_wp2
    go_ret
    exact ⟨rfl, below_alloc hw⟩
  cases nw
  rotate_left
  · go_enter Tryz.func69, Tryz.ntmps69
    go_wp2_with fail
    refine (L.out _ (below_alloc1 _ _)).mono ?_
    rintro e w1 ⟨rfl, hw⟩
    have hc := (bcell hw).1
    go_wp2_with fail
    refine (NR.out _ (below_alloc hw)).mono ?_
    rintro e w2 ⟨rfl, rfl⟩
    go_wp2_with fail
    refine (NW.out _ (below_alloc hw)).mono ?_
    rintro e w2 ⟨rfl, rfl⟩
    go_wp2
    go_ret
    exact ⟨rfl, below_alloc hw⟩
  cases tr
  rotate_left
  · go_enter Tryz.func69, Tryz.ntmps69
    go_wp2_with fail
    refine (L.out _ (below_alloc1 _ _)).mono ?_
    rintro e w1 ⟨rfl, hw⟩
    have hc := (bcell hw).1
    go_wp2_with fail
    refine (NR.out _ (below_alloc hw)).mono ?_
    rintro e w2 ⟨rfl, rfl⟩
    go_wp2_with fail
    refine (NW.out _ (below_alloc hw)).mono ?_
    rintro e w2 ⟨rfl, rfl⟩
    go_wp2_with fail
    refine (TR.out _ (below_alloc hw)).mono ?_
    rintro e w2 ⟨rfl, rfl⟩
    go_wp2
    go_ret
    exact ⟨rfl, below_alloc hw⟩
  cases tw
  rotate_left
  · go_enter Tryz.func69, Tryz.ntmps69
    go_wp2_with fail
    refine (L.out _ (below_alloc1 _ _)).mono ?_
    rintro e w1 ⟨rfl, hw⟩
    have hc := (bcell hw).1
    go_wp2_with fail
    refine (NR.out _ (below_alloc hw)).mono ?_
    rintro e w2 ⟨rfl, rfl⟩
    go_wp2_with fail
    refine (NW.out _ (below_alloc hw)).mono ?_
    rintro e w2 ⟨rfl, rfl⟩
    go_wp2_with fail
    refine (TR.out _ (below_alloc hw)).mono ?_
    rintro e w2 ⟨rfl, rfl⟩
    go_wp2_with fail
    refine (TW.out _ (below_alloc hw)).mono ?_
    rintro e w2 ⟨rfl, rfl⟩
    go_wp2
    go_ret
    exact ⟨rfl, below_alloc hw⟩
  cases u
  · go_enter Tryz.func69, Tryz.ntmps69
    go_wp2_with fail
    refine (L.out _ (below_alloc1 _ _)).mono ?_
    rintro e w1 ⟨rfl, hw⟩
    have hc := (bcell hw).1
    go_wp2_with fail
    refine (NR.out _ (below_alloc hw)).mono ?_
    rintro e w2 ⟨rfl, rfl⟩
    go_wp2_with fail
    refine (NW.out _ (below_alloc hw)).mono ?_
    rintro e w2 ⟨rfl, rfl⟩
    go_wp2_with fail
    refine (TR.out _ (below_alloc hw)).mono ?_
    rintro e w2 ⟨rfl, rfl⟩
    go_wp2_with fail
    refine (TW.out _ (below_alloc hw)).mono ?_
    rintro e w2 ⟨rfl, rfl⟩
    go_wp2_with fail
    refine (U.out _ (below_alloc hw)).mono ?_
    rintro e w2 ⟨rfl, hw2⟩
    go_wp2
    go_ret
    exact ⟨rfl, below_on (below_alloc hw) hw2⟩
  · go_enter Tryz.func69, Tryz.ntmps69
    go_wp2_with fail
    refine (L.out _ (below_alloc1 _ _)).mono ?_
    rintro e w1 ⟨rfl, hw⟩
    have hc := (bcell hw).1
    go_wp2_with fail
    refine (NR.out _ (below_alloc hw)).mono ?_
    rintro e w2 ⟨rfl, rfl⟩
    go_wp2_with fail
    refine (NW.out _ (below_alloc hw)).mono ?_
    rintro e w2 ⟨rfl, rfl⟩
    go_wp2_with fail
    refine (TR.out _ (below_alloc hw)).mono ?_
    rintro e w2 ⟨rfl, rfl⟩
    go_wp2_with fail
    refine (TW.out _ (below_alloc hw)).mono ?_
    rintro e w2 ⟨rfl, rfl⟩
    go_wp2_with fail
    refine (U.out _ (below_alloc hw)).mono ?_
    rintro e w2 ⟨rfl, hw2⟩
    go_wp2
    go_ret
    exact ⟨rfl, below_on (below_alloc hw) hw2⟩

set_option maxHeartbeats 400000 in
theorem sCheck_any (h : TH) (t : Tx) (w : World) (hx : TxAt w h t) :
    Calls Tryz.prog 40 #[.agg h.cells] w fun e w' => e = .returned (.int .i64 (checkN t)) ∧ Below w.heap.size w w' := by
  have L := hide (fun wx (hb : Below w.heap.size w wx) => Fault_any h t wx (hx.below hb))
  clear hx
  obtain ⟨⟨ra, rn, rc⟩, ⟨wa, wn, wc⟩, ⟨ca, cn, cc⟩⟩ := h
  simp only [TH.cells] at L
  show Calls Tryz.prog 40 #[.agg #[.slice ra rn rc, .slice wa wn wc, .slice ca cn cc]] w _
  go_enter Tryz.func40, Tryz.ntmps40
  go_wp2_with fail
  refine (L.out _ (below_alloc1 _ _)).mono ?_
  rintro e w1 ⟨rfl, hw⟩
  generalize hr : checkN t = r
  have HR := hide hr
  clear hr
  go_wp2
  go_ret
  exact ⟨ret_int HR.out.symm, below_alloc hw⟩

end Go.Proofs.YtlheloogmgmjnaaGreat
