import Derived.Test.YtlheloogmgmjnaaGreatProgSubmit
import Derived.Test.YtlheloogmgmjnaaGreatFault
import Derived.Test.YtlheloogmgmjnaaGreatRefCheckAll
namespace Go.Proofs.YtlheloogmgmjnaaGreat
open Go.RowKit

/-- Why a transaction may not come in. -/
def PM.refusal (M : PM) (t : Tx) : Int := if checkN t ≠ 0 then checkN t else if 150 ≤ M.recs.length then 6 else if M.room < M.taken + t.w.length then 7 else 0

set_option maxHeartbeats 2000000 in
set_option maxRecDepth 100000 in
theorem prefusal_any (M : PM) (w : World) (h : PAt w M) (hd : TH) (t : Tx) (hx : TxAt w hd t) :
    Calls Tryz.prog 66 #[.pointer (some ⟨M.b, 0, none⟩), .agg hd.cells] w fun e w' => e = .returned (.int .i64 (M.refusal t)) ∧ Below w.heap.size w w' := by
  have SC := hide (fun wx (hb : Below w.heap.size w wx) => sCheck_any hd t wx (hx.below hb))
  have TN := hide (fun wx (hb : Below w.heap.size w wx) => iTxns_any M wx (h.below hb))
  have H0 := hide (fun wx (hb : Below w.heap.size w wx) => (h.below hb).row.cell' (i := 0) (v := .int .i64 M.room) rfl)
  have H1 := hide (fun wx (hb : Below w.heap.size w wx) => (h.below hb).row.cell' (i := 1) (v := .int .i64 M.taken) rfl)
  have hr5 := h.room500
  have ht5 := h.taken500
  have hwl := hx.wl
  have hwb := hx.wb
  clear h hx
  obtain ⟨⟨ra, rn, rc⟩, ⟨wa, wn, wc⟩, ⟨ca, cn, cc⟩⟩ := hd
  simp only [TH.cells] at SC
  simp only at hwl hwb
  show Calls Tryz.prog 66 #[.pointer (some ⟨M.b, 0, none⟩), .agg #[.slice ra rn rc, .slice wa wn wc, .slice ca cn cc]] w _
  subst hwl
  go_enter Tryz.func66, Tryz.ntmps66
  go_wp2_with fail
  refine (SC.out _ (below_alloc1 _ _)).mono ?_
  rintro e w1 ⟨rfl, hb1⟩
  have A1 := hide ((rowAt_alloc w [.slice ra rn rc, .slice wa t.w.length wc, .slice ca cn cc] 33).below' hb1)
  have B1 := hide (below_alloc hb1)
  clear hb1 SC
  by_cases hc : checkN t = 0
  · rw [hc]
    have TN1 := hide (TN.out w1 B1.out)
    by_cases hm : 150 ≤ M.recs.length
    · have hm' : (150 : Int) ≤ (M.recs.length : Int) := by omega
      have RF := hide (show M.refusal t = 6 by simp [PM.refusal, hc, hm])
      go_wp2_with (go_at_call 56; refine TN1.out.mono ?_; rintro e w' ⟨rfl, rfl⟩)
      go_ret
      exact ⟨ret_int RF.out.symm, B1.out⟩
    · have hm' : ¬ (150 : Int) ≤ (M.recs.length : Int) := by omega
      have c0 := H0.out w1 B1.out
      have c1 := H1.out w1 B1.out
      have a1 := A1.out.cell' (i := 1) rfl
      by_cases hf : M.room < M.taken + t.w.length
      · have hf' : (M.room : Int) < (M.taken : Int) + (t.w.length : Int) := by omega
        have RF := hide (show M.refusal t = 7 by simp [PM.refusal, hc, hm, hf])
        clear hc hm hf TN H0 H1
        go_wp2_with (go_at_call 56; refine TN1.out.mono ?_; rintro e w' ⟨rfl, rfl⟩)
        go_quiet (fail)
        go_wp2
        go_ret
        exact ⟨ret_int RF.out.symm, below_drewN B1.out _⟩
      · have hf' : ¬ (M.room : Int) < (M.taken : Int) + (t.w.length : Int) := by omega
        have RF := hide (show M.refusal t = 0 by simp [PM.refusal, hc, hm, hf])
        clear hc hm hf TN H0 H1
        go_wp2_with (go_at_call 56; refine TN1.out.mono ?_; rintro e w' ⟨rfl, rfl⟩)
        go_quiet (fail)
        go_wp2
        go_ret
        exact ⟨ret_int RF.out.symm, below_drewN B1.out _⟩
  · have RF := hide (show M.refusal t = checkN t by simp [PM.refusal, hc])
    have he : (checkN t != 0) = true := by rw [bne_iff_ne]; exact hc
    generalize checkN t = c at *
    clear TN H0 H1 hc
    go_wp2
    go_ret
    exact ⟨ret_int RF.out.symm, B1.out⟩

set_option maxHeartbeats 2000000 in
set_option maxRecDepth 100000 in
theorem pSubmit_no (M : PM) (w : World) (h : PAt w M) (hd : TH) (t : Tx) (hx : TxAt w hd t) (hc : M.refusal t ≠ 0) :
    Calls Tryz.prog 36 #[.pointer (some ⟨M.b, 0, none⟩), .agg hd.cells] w fun e w' => e = .returned (.tuple #[.int .i64 0, .int .i64 (M.refusal t)]) ∧ Below w.heap.size w w' := by
  have RF := hide (fun wx (hb : Below w.heap.size w wx) => prefusal_any M wx (h.below hb) hd t (hx.below hb))
  clear h hx
  obtain ⟨⟨ra, rn, rc⟩, ⟨wa, wn, wc⟩, ⟨ca, cn, cc⟩⟩ := hd
  simp only [TH.cells] at RF
  show Calls Tryz.prog 36 #[.pointer (some ⟨M.b, 0, none⟩), .agg #[.slice ra rn rc, .slice wa wn wc, .slice ca cn cc]] w _
  generalize M.refusal t = e at *
  have he : (e != 0) = true := by rw [bne_iff_ne]; exact hc
  clear hc
  go_enter Tryz.func36, Tryz.ntmps36
  go_wp2_with fail
  refine (RF.out _ (below_alloc1 _ _)).mono ?_
  rintro e w1 ⟨rfl, hb1⟩
  go_wp2
  go_ret2
  exact ⟨rfl, below_alloc hb1⟩

theorem mem_blk' {s : Sl} {a : Addr} (h : s.a = some a) : a.block ∈ s.blk := by simp [Sl.blk, h]

def PM.withTaken (M : PM) (n : Nat) : PM := { M with taken := M.taken + n }

theorem pAt_withTaken {w : World} {M : PM} (h : PAt w M) {n : Nat} (hn : M.taken + n ≤ M.room) {v : Value} (hv : v = .int .i64 (M.taken + n : Nat)) :
    PAt (w.setCell ⟨M.b, 1, none⟩ v) (M.withTaken n) ∧ Chg w (w.setCell ⟨M.b, 1, none⟩ v) (· = M.b) := by
  subst hv
  have hc : Chg w (w.setCell ⟨M.b, 1, none⟩ (.int .i64 (M.taken + n : Nat))) (· = M.b) := Chg.setCell w ⟨M.b, 1, none⟩ _
  have hnd := h.nodup
  rw [PM.mut, List.nodup_cons] at hnd
  have hm : ∀ k ∈ M.rcS.blk ++ M.enS.blk, ¬ k = M.b := fun k hk e => hnd.1 (by rw [← e]; exact hk)
  have hi : ∀ k ∈ M.imm, ¬ k = M.b := fun k hk e => h.apart k hk (by rw [e]; simp [PM.mut])
  exact ⟨{ h with
    row := h.row.set 1 _
    rc := h.rc.chg hc (fun k hk => hm k (by simp [hk]))
    en := h.en.chg hc (fun k hk => hm k (by simp [hk]))
    mkO := h.mkO.chg hc (fun k hk => hi k (by simp [PM.imm, hk]))
    maps := fun g hg => by rw [hc.block g (blk_of_map (h.maps g hg)) (hi g (by simp [PM.imm, show g ∈ M.mbs from hg]))]; exact h.maps g hg
    taken500 := hn }, hc⟩

theorem TxAt.chg {w w' : World} {D : Nat → Prop} {h : TH} {t : Tx} (x : TxAt w h t) (hc : Chg w w' D) (hd : ∀ k ∈ h.blks, ¬ D k) : TxAt w' h t :=
  { x with
    ri := x.ri.chg hc (fun a e => hd _ (by simp [TH.blks, mem_blk' e]))
    wi := x.wi.chg hc (fun a e => hd _ (by simp [TH.blks, mem_blk' e]))
    ci := x.ci.chg hc (fun a e => hd _ (by simp [TH.blks, mem_blk' e])) }

set_option maxHeartbeats 4000000 in
set_option maxRecDepth 100000 in
theorem pSubmit_ok (M : PM) (w : World) (h : PAt w M) (hd : TH) (t : Tx) (hx : TxAt w hd t) (hn : hd.nilOk) (hap : ∀ k ∈ hd.blks, k ≠ M.b) (hc : M.refusal t = 0) :
    Calls Tryz.prog 36 #[.pointer (some ⟨M.b, 0, none⟩), .agg hd.cells] w fun e w' => ∃ (r : PRec) (s : Sl) (M' : PM), e = .returned (.tuple #[.int .i64 (M.recs.length + 1 : Nat), .int .i64 0]) ∧ PAt w' M' ∧
      (M.recs.length + 1 - M.closed = 6 → ∃ s2, M' = ((M.withTaken t.w.length).withRec r s).withEnd s2) ∧ (¬ M.recs.length + 1 - M.closed = 6 → M' = (M.withTaken t.w.length).withRec r s) ∧ Chg w w' (fun k => k ∈ M.mut) ∧ (∀ k ∈ M'.foot, k ∈ M.foot ∨ w.heap.size ≤ k) := by
  obtain ⟨hm, hf⟩ : M.recs.length < 150 ∧ M.taken + t.w.length ≤ M.room := by
    unfold PM.refusal at hc
    split at hc
    · rename_i h1; exact absurd hc h1
    · split at hc
      · exact absurd hc (by decide)
      · split at hc
        · exact absurd hc (by decide)
        · exact ⟨by omega, by omega⟩
  have RF := hide (fun wx (hb : Below w.heap.size w wx) => prefusal_any M wx (h.below hb) hd t (hx.below hb))
  rw [hc] at RF
  have AD := hide (fun wx (hB : Chg w wx (· = M.b)) (hp : PAt wx (M.withTaken t.w.length)) => iAdd_any (M.withTaken t.w.length) wx hp hd t (hx.chg hB hap) hn (by exact hm))
  have HR := hide h
  have hwl := hx.wl
  have hr5 := h.room500
  have hbl := h.row.lt
  clear h hx hn hc hap
  obtain ⟨⟨ra, rn, rc⟩, ⟨wa, wn, wc⟩, ⟨ca, cn, cc⟩⟩ := hd
  simp only [TH.cells] at RF AD
  simp only at hwl
  subst hwl
  show Calls Tryz.prog 36 #[.pointer (some ⟨M.b, 0, none⟩), .agg #[.slice ra rn rc, .slice wa t.w.length wc, .slice ca cn cc]] w _
  go_enter Tryz.func36, Tryz.ntmps36
  go_wp2_with fail
  refine (RF.out _ (below_alloc1 _ _)).mono ?_
  rintro e w1 ⟨rfl, hb1⟩
  have A1 := hide ((rowAt_alloc w [.slice ra rn rc, .slice wa t.w.length wc, .slice ca cn cc] 33).below' hb1)
  have B1 := hide (below_alloc hb1)
  have H1 := hide (HR.out.below B1.out)
  clear hb1 RF
  go_wp2
  have c1 := H1.out.row.cell' (i := 1) (v := .int .i64 M.taken) rfl
  have cf := H1.out.row.frozen 1
  have a1 := A1.out.cell' (i := 1) rfl
  have hne : M.b ≠ w.heap.size := by omega
  have hwrap : IntKind.i64.wrap ((M.taken : Int) + (t.w.length : Int)) = (M.taken : Int) + (t.w.length : Int) := by rw [IntKind.wrap_i64]; omega
  refine wp_region_L (L := #[true, true, true, true, true, true, true, true, false, false, false]) (S := fun w' => w'.cell? ⟨M.b, 1, none⟩ = some (.int .i64 M.taken) ∧ w'.cell? ⟨w.heap.size, 1, none⟩ = some (.slice wa t.w.length wc)) (by kernel_rfl) ?_
  have hHeld : w1.drew.cell? ⟨M.b, 1, none⟩ = some (.int .i64 M.taken) ∧ w1.drew.cell? ⟨w.heap.size, 1, none⟩ = some (.slice wa t.w.length wc) := ⟨c1, a1⟩
  refine wpL_take (i := 0) (v := ?_) rfl (by kernel_rfl) (by kernel_rfl) (by kernel_rfl) (by kernel_rfl) (fun _ _ _ h => h) (by rfl) ?_ (by assumption) ?_
  rotate_left
  · intro w hSw; (try dsimp only at hSw); (go_simp <;> with_reducible rfl)
  try simp only [List.getElem_toArray, List.getElem_cons_zero, Act.put, List.setIfInBounds_toArray, List.set_cons_zero, List.set_cons_succ]
  refine wpL_take (i := 1) (v := ?_) rfl (by kernel_rfl) (by kernel_rfl) (by kernel_rfl) (by kernel_rfl) (fun _ _ _ h => h) (by rfl) ?_ (by assumption) ?_
  rotate_left
  · intro w hSw; (try dsimp only at hSw); (go_simp <;> with_reducible rfl)
  try simp only [List.getElem_toArray, List.getElem_cons_zero, List.getElem_cons_succ, Act.put, List.setIfInBounds_toArray, List.set_cons_zero, List.set_cons_succ]
  refine wpL_take (i := 2) (v := ?_) rfl (by kernel_rfl) (by kernel_rfl) (by kernel_rfl) (by kernel_rfl) (fun _ _ _ h => h) (by rfl) ?_ (by assumption) ?_
  rotate_left
  · intro w hSw; (try dsimp only at hSw); (go_simp <;> with_reducible rfl)
  try simp only [List.getElem_toArray, List.getElem_cons_zero, List.getElem_cons_succ, Act.put, List.setIfInBounds_toArray, List.set_cons_zero, List.set_cons_succ]
  refine wpL_take (i := 3) (v := ?_) rfl (by kernel_rfl) (by kernel_rfl) (by kernel_rfl) (by kernel_rfl) (fun _ _ _ h => h) (by rfl) ?_ (by assumption) ?_
  rotate_left
  · intro w hSw; (try dsimp only at hSw); (go_simp <;> with_reducible rfl)
  try simp only [List.getElem_toArray, List.getElem_cons_zero, List.getElem_cons_succ, Act.put, List.setIfInBounds_toArray, List.set_cons_zero, List.set_cons_succ]
  refine wpL_take (i := 4) (v := ?_) rfl (by kernel_rfl) (by kernel_rfl) (by kernel_rfl) (by kernel_rfl) (fun _ _ _ h => h) (by rfl) ?_ (by assumption) ?_
  rotate_left
  · intro w hSw; (try dsimp only at hSw); (go_simp <;> with_reducible rfl)
  try simp only [List.getElem_toArray, List.getElem_cons_zero, List.getElem_cons_succ, Act.put, List.setIfInBounds_toArray, List.set_cons_zero, List.set_cons_succ]
  refine wpL_take (i := 5) (v := ?_) rfl (by kernel_rfl) (by kernel_rfl) (by kernel_rfl) (by kernel_rfl) (fun _ _ _ h => h) (by rfl) ?_ (by assumption) ?_
  rotate_left
  · intro w hSw; (try dsimp only at hSw); (go_simp <;> with_reducible rfl)
  try simp only [List.getElem_toArray, List.getElem_cons_zero, List.getElem_cons_succ, Act.put, List.setIfInBounds_toArray, List.set_cons_zero, List.set_cons_succ]
  refine wpL_take (i := 6) (v := ?_) rfl (by kernel_rfl) (by kernel_rfl) (by kernel_rfl) (by kernel_rfl) (fun _ _ _ h => h) (by rfl) ?_ (by assumption) ?_
  rotate_left
  · intro w hSw; (try dsimp only at hSw); (go_simp <;> with_reducible rfl)
  try simp only [List.getElem_toArray, List.getElem_cons_zero, List.getElem_cons_succ, Act.put, List.setIfInBounds_toArray, List.set_cons_zero, List.set_cons_succ]
  refine wpL_take (i := 7) (v := ?_) rfl (by kernel_rfl) (by kernel_rfl) (by kernel_rfl) (by kernel_rfl) (fun _ _ _ h => h) (by rfl) ?_ (by assumption) ?_
  rotate_left
  · intro w hSw; (try dsimp only at hSw); (go_simp <;> with_reducible rfl)
  try simp only [List.getElem_toArray, List.getElem_cons_zero, List.getElem_cons_succ, Act.put, List.setIfInBounds_toArray, List.set_cons_zero, List.set_cons_succ]
  refine wpL_leaf _ (by kernel_rfl) ?_
  refine wpAny_one (n := 8) (by kernel_rfl) rfl (by rfl) (fun K hK => ?_)
  simp only [List.getElem_toArray, List.getElem_cons_zero, List.getElem_cons_succ]
  go_simp
  refine hK.out _ _ ?_
  clear hK K
  try simp only [List.setIfInBounds_toArray, List.set_cons_zero, List.set_cons_succ]
  refine wpAny_one (n := 9) (by kernel_rfl) rfl (by rfl) (fun K hK => ?_)
  simp only [List.getElem_toArray, List.getElem_cons_zero, List.getElem_cons_succ]
  go_simp
  refine hK.out _ _ ?_
  clear hK K
  try simp only [List.setIfInBounds_toArray, List.set_cons_zero, List.set_cons_succ]
  refine wpAny_last (n := 10) (by kernel_rfl) (by kernel_rfl) rfl (by rfl) ?_
  clear hHeld
  simp only [List.getElem_toArray, List.getElem_cons_zero, List.getElem_cons_succ]
  go_simp
  obtain ⟨q1, q2⟩ := pAt_withTaken H1.out (n := t.w.length) hf (v := .int .i64 ((M.taken : Int) + t.w.length)) (by simp)
  have P1 := hide (q1.drewN 1)
  have C1 := hide (((Chg.of_below B1.out (· = M.b)).trans q2).drew)
  have A2 := hide (A1.out.chg q2 (by show ¬ w.heap.size = M.b; omega)).drew
  clear q1 q2 c1 cf a1 A1 H1 B1
  go_wp2
  change Hid (PAt (w1.setCell ⟨M.b, 1, none⟩ (.int .i64 ((M.taken : Int) + t.w.length))).drew (M.withTaken t.w.length)) at P1
  generalize (w1.setCell ⟨M.b, 1, none⟩ (.int .i64 ((M.taken : Int) + t.w.length))).drew = W at *
  have KA : Hid (∀ w', Chg W w' (fun k => k ∈ M.mut) → (w'.cell? ⟨w.heap.size, 0, none⟩ = some (.slice ra rn rc) ∧ w'.cell? ⟨w.heap.size, 1, none⟩ = some (.slice wa t.w.length wc) ∧ w'.cell? ⟨w.heap.size, 2, none⟩ = some (.slice ca cn cc))) := hide (fun w' hC => by
    have hnm : w.heap.size ∉ M.mut := fun hk => by have := HR.out.foot_lt w.heap.size (by simp [PM.foot, hk]); omega
    have r := A2.out.chg hC hnm
    exact ⟨r.cell' (i := 0) rfl, r.cell' (i := 1) rfl, r.cell' (i := 2) rfl⟩)
  have AD1 := hide (AD.out W.drew C1.out.drew (P1.out.drewN 1))
  clear AD
  refine wp_region_L (L := #[true, true, true, true, true, true, true]) (S := fun w' => w'.cell? ⟨w.heap.size, 0, none⟩ = some (.slice ra rn rc) ∧ w'.cell? ⟨w.heap.size, 1, none⟩ = some (.slice wa t.w.length wc) ∧ w'.cell? ⟨w.heap.size, 2, none⟩ = some (.slice ca cn cc)) (by kernel_rfl) ?_
  have hHeld := KA.out W.drew ((Chg.refl _ _).drew)
  refine wpL_take (i := 0) (v := ?_) rfl (by kernel_rfl) (by kernel_rfl) (by kernel_rfl) (by kernel_rfl) (fun _ _ _ h => h) (by rfl) ?_ (by assumption) ?_
  rotate_left
  · intro w hSw; (try dsimp only at hSw); (go_simp <;> with_reducible rfl)
  try simp only [List.getElem_toArray, List.getElem_cons_zero, Act.put, List.setIfInBounds_toArray, List.set_cons_zero, List.set_cons_succ]
  refine wpL_take (i := 1) (v := ?_) rfl (by kernel_rfl) (by kernel_rfl) (by kernel_rfl) (by kernel_rfl) (fun _ _ _ h => h) (by rfl) ?_ (by assumption) ?_
  rotate_left
  · intro w hSw; (try dsimp only at hSw); (go_simp <;> with_reducible rfl)
  try simp only [List.getElem_toArray, List.getElem_cons_zero, List.getElem_cons_succ, Act.put, List.setIfInBounds_toArray, List.set_cons_zero, List.set_cons_succ]
  refine wpL_take (i := 2) (v := ?_) rfl (by kernel_rfl) (by kernel_rfl) (by kernel_rfl) (by kernel_rfl) (fun _ _ _ h => h) (by rfl) ?_ (by assumption) ?_
  rotate_left
  · intro w hSw; (try dsimp only at hSw); (go_simp <;> with_reducible rfl)
  try simp only [List.getElem_toArray, List.getElem_cons_zero, List.getElem_cons_succ, Act.put, List.setIfInBounds_toArray, List.set_cons_zero, List.set_cons_succ]
  refine wpL_take (i := 3) (v := ?_) rfl (by kernel_rfl) (by kernel_rfl) (by kernel_rfl) (by kernel_rfl) (fun _ _ _ h => h) (by rfl) ?_ (by assumption) ?_
  rotate_left
  · intro w hSw; (try dsimp only at hSw); (go_simp <;> with_reducible rfl)
  try simp only [List.getElem_toArray, List.getElem_cons_zero, List.getElem_cons_succ, Act.put, List.setIfInBounds_toArray, List.set_cons_zero, List.set_cons_succ]
  refine wpL_one (n := 4) (by kernel_rfl) rfl (by rfl) (fun K hK => ?_)
  clear hHeld
  simp only [List.getElem_toArray, List.getElem_cons_zero, List.getElem_cons_succ]
  go_simp
  refine AD1.out.mono ?_
  rintro e w6 ⟨r, s, M', rfl, hp, h6, h7, hc6, hf6⟩
  have HP := hide hp; have H6 := hide h6; have H7 := hide h7; have HC := hide hc6; have HF := hide hf6
  have hHeld := KA.out w6 ((Chg.refl W (fun k => k ∈ M.mut)).drew.trans hc6)
  refine hK.out _ _ hHeld ?_
  clear hK K hp h6 h7 hc6 hf6 AD1 KA
  try simp only [List.getElem_toArray, List.getElem_cons_zero, List.getElem_cons_succ, Act.put, List.setIfInBounds_toArray, List.set_cons_zero, List.set_cons_succ]
  refine wpL_take (i := 5) (v := ?_) rfl (by kernel_rfl) (by kernel_rfl) (by kernel_rfl) (by kernel_rfl) (fun _ _ _ h => h) (by rfl) ?_ (by assumption) ?_
  rotate_left
  · intro w hSw; (try dsimp only at hSw); (go_simp <;> with_reducible rfl)
  try simp only [List.getElem_toArray, List.getElem_cons_zero, List.getElem_cons_succ, Act.put, List.setIfInBounds_toArray, List.set_cons_zero, List.set_cons_succ]
  refine wpL_take (i := 6) (v := ?_) rfl (by kernel_rfl) (by kernel_rfl) (by kernel_rfl) (by kernel_rfl) (fun _ _ _ h => h) (by rfl) ?_ (by assumption) ?_
  rotate_left
  · intro w hSw; (try dsimp only at hSw); (go_simp <;> with_reducible rfl)
  try simp only [List.getElem_toArray, List.getElem_cons_zero, List.getElem_cons_succ, Act.put, List.setIfInBounds_toArray, List.set_cons_zero, List.set_cons_succ]
  refine wpL_leaf _ (by kernel_rfl) ?_
  refine wpAny_none _ (by kernel_rfl) ?_
  clear hHeld
  go_wp2
  go_ret2
  exact ⟨r, s, M', rfl, HP.out, H6.out, H7.out, (C1.out.mono (fun k _ hk => by rw [hk]; simp [PM.mut])).trans ((Chg.refl W (fun k => k ∈ M.mut)).drew.trans HC.out), fun k hk => (HF.out k hk).imp id (fun h => Nat.le_trans C1.out.size h)⟩

end Go.Proofs.YtlheloogmgmjnaaGreat
