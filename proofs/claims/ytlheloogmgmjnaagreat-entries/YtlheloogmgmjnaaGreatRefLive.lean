import Derived.Test.YtlheloogmgmjnaaGreatRefRead
namespace Go.Proofs.YtlheloogmgmjnaaGreat
open Go.RowKit

/-- The first of n numbers for which p holds; -1: none. -/
def firstN (p : Nat → Bool) (n : Nat) : Int := match (List.range n).find? p with | some k => (k : Int) | none => -1

theorem firstN_at {p : Nat → Bool} {n k : Nat} (hk : k < n) (hp : p k = true) (hn : ∀ j, j < k → p j = false) : firstN p n = k := by
  have : (List.range n).find? p = some k := by
    rw [List.find?_range_eq_some]
    exact ⟨hp, List.mem_range.2 hk, fun j hj => by simp [hn j hj]⟩
  simp [firstN, this]
theorem firstN_none {p : Nat → Bool} {n : Nat} (hn : ∀ j, j < n → p j = false) : firstN p n = -1 := by
  have : (List.range n).find? p = none := by
    rw [List.find?_eq_none]
    intro j hj
    simp [hn j (List.mem_range.1 hj)]
  simp [firstN, this]
theorem firstN_ge (p : Nat → Bool) (n : Nat) : -1 ≤ firstN p n := by
  unfold firstN; split <;> omega

def Tsk.wr (t : Tsk) (key : Int) : Int := firstN (fun k => t.tx.w.getD k 0 == key && !t.gone.getD k false) t.tx.w.length

set_option maxHeartbeats 1000000 in
set_option maxRecDepth 100000 in
theorem rwrites_any (M : RM) (w : World) (h : RefAt w M) (i : Nat) (hi : i < M.tasks.length) (key : Int) :
    Calls Tryz.prog 117 #[.pointer (some ⟨M.b, 0, none⟩), .int .i64 i, .int .i64 key] w fun e w' => e = .returned (.int .i64 (M.tasks[i].wr key)) ∧ w' = w := by
  have c3 := h.row.cell' (i := 3) (v := .slice M.tkS.a M.tkS.n M.tkS.c) rfl
  rw [h.tkn] at c3
  have ht := h.txns
  have hlt := h.row.lt
  obtain ⟨g, hg, hgl, hc⟩ := h.task hi
  have hT := h.tsk _ (List.getElem_mem hi)
  rw [hg] at c3
  clear h hg
  generalize M.tasks[i] = T at *
  have e1 := hc 1 (.slice T.h.w.a T.h.w.n T.h.w.c) rfl
  have e9 := hc 9 (.slice T.goneS.a T.goneS.n T.goneS.c) rfl
  rw [hT.gonen, hT.gonel] at e9
  rw [hT.tx.wl] at e1
  have hw6 := (checkN_sound _ hT.chk).2.2.1
  have HI := hide hT.tx.wi
  have HB := hide hT.gone.bools
  have gl := hide hT.gonel
  clear hT hc
  have HW := hide (show T.wr key = firstN (fun k => T.tx.w.getD k 0 == key && !T.gone.getD k false) T.tx.w.length from rfl)
  go_enter Tryz.func117, Tryz.ntmps117
  go_wp2
  go_loop [7] (fun t => ∃ k : Nat, k ≤ T.tx.w.length ∧ t = .int .i64 k ∧ ∀ j, j < k → (T.tx.w.getD j 0 == key && !T.gone.getD j false) = false) (fun t => T.tx.w.length - (intOf t).toNat)
  case atStart => exact ⟨0, Nat.zero_le _, rfl, fun j hj => by omega⟩
  case round =>
    obtain ⟨k, hk, rfl, hn⟩ := hrel
    have HN := hide hn
    clear hn
    by_cases hlk : k < T.tx.w.length
    · obtain ⟨b, o, hb, hcb, _⟩ := HI.out.at hlk
      have hbk := hcb k hlk
      obtain ⟨b2, o2, hb2, hcb2, _⟩ := HB.out.at (k := k) (by rw [gl.out]; exact hlk)
      have hgk := hcb2 k (by rw [gl.out]; exact hlk)
      rw [hb] at e1
      rw [hb2] at e9
      clear hcb hcb2 hb hb2
      have HK := hide (fun (h : (T.tx.w.getD k 0 == key && !T.gone.getD k false) = true) => firstN_at (p := fun k => T.tx.w.getD k 0 == key && !T.gone.getD k false) hlk h HN.out)
      have HK2 : Hid ((T.tx.w.getD k 0 == key && !T.gone.getD k false) = false → ∀ j, j < k + 1 → (T.tx.w.getD j 0 == key && !T.gone.getD j false) = false) := fun h j hj => by
        by_cases hjk : j < k
        · exact HN.out j hjk
        · have : j = k := by omega
          subst this; exact h
      clear HN
      generalize T.tx.w.getD k 0 = y at *
      generalize T.gone.getD k false = q at *
      by_cases hy : y = key
      · have hy' : (y == key) = true := by simp [hy]
        have HY := hide hy
        clear hy
        cases q
        · go_wp2
          go_ret
          exact ⟨ret_int (by rw [HW.out, HK.out (by simp [HY.out])]), rfl⟩
        · go_wp2
          go_round
          case rel => exact ⟨k + 1, by omega, by go_num, HK2.out (by simp)⟩
          case measure => simp [intOf]; omega
      · have hy' : (y == key) = false := by simp [hy]
        go_wp2
        go_round
        case rel => exact ⟨k + 1, by omega, by go_num, HK2.out (by simp [hy])⟩
        case measure => simp [intOf]; omega
    · have hkk : k = T.tx.w.length := by omega
      have hf := hide (firstN_none (n := T.tx.w.length) (p := fun k => T.tx.w.getD k 0 == key && !T.gone.getD k false) (by rw [← hkk]; exact HN.out))
      go_wp2
      go_ret
      exact ⟨ret_int (by rw [HW.out, hf.out]), rfl⟩

theorem TskAt.chg {w w' : World} {D : Nat → Prop} {t : Tsk} (h : TskAt w t) (hc : Chg w w' D) (hi : ∀ k ∈ t.imm, ¬ D k) (hg : ∀ k ∈ t.goneS.blk, ¬ D k) : TskAt w' t := by
  have hb : ∀ (s : Sl), (∀ k ∈ s.blk, ¬ D k) → ∀ a, s.a = some a → ¬ D a.block := fun s hs a ha => hs _ (by simp [Sl.blk, ha])
  have h1 : ∀ k ∈ t.h.r.blk, ¬ D k := fun k hk => hi k (by simp [Tsk.imm, hk])
  have h2 : ∀ k ∈ t.h.w.blk, ¬ D k := fun k hk => hi k (by simp [Tsk.imm, hk])
  have h3 : ∀ k ∈ t.h.c.blk, ¬ D k := fun k hk => hi k (by simp [Tsk.imm, hk])
  have h4 : ∀ k ∈ t.didS.blk, ¬ D k := fun k hk => hi k (by simp [Tsk.imm, hk])
  have h5 : ∀ k ∈ t.wsS.blk, ¬ D k := fun k hk => hi k (by simp [Tsk.imm, hk])
  have h6 : ∀ k ∈ t.saidS.blk, ¬ D k := fun k hk => hi k (by simp [Tsk.imm, hk])
  exact { h with
    tx := { h.tx with ri := h.tx.ri.chg hc (hb _ h1), wi := h.tx.wi.chg hc (hb _ h2), ci := h.tx.ci.chg hc (hb _ h3) }
    did := h.did.chg hc (hb _ h4)
    ws := h.ws.chg hc (hb _ h5)
    said := h.said.chg hc (hb _ h6)
    gone := h.gone.chg hc hg }

/-- Whatever turns no block of the store leaves it as it is. -/
theorem RefAt.chg {w w' : World} {D : Nat → Prop} {M : RM} (h : RefAt w M) (hc : Chg w w' D) (hm : ∀ k ∈ M.mut, ¬ D k) (hi : ∀ k ∈ M.imm, ¬ D k) : RefAt w' M :=
  { h with
    immlt := fun k hk => Nat.lt_of_lt_of_le (h.immlt k hk) hc.size
    row := h.row.chg hc (hm _ (by simp [RM.mut]))
    tk := h.tk.chg hc (fun k hk => hm k (by simp [RM.mut, hk]))
    hv := h.hv.chg hc (fun k hk => hm k (by simp [RM.mut, hk]))
    en := h.en.chg hc (fun k hk => hm k (by simp [RM.mut, hk]))
    de := h.de.chg hc (fun k hk => hm k (by simp [RM.mut, hk]))
    ha := h.ha.chg hc (fun k hk => hm k (by simp [RM.mut, hk]))
    di := h.di.chg hc (fun k hk => hm k (by simp [RM.mut, hk]))
    tsk := fun t ht => (h.tsk t ht).chg hc (fun k hk => hi k (by simp only [RM.imm, List.mem_flatMap]; exact ⟨t, ht, hk⟩)) (fun k hk => hm k (by simp only [RM.mut, List.mem_cons, List.mem_append, List.mem_flatMap]; exact Or.inr (Or.inr (Or.inr (Or.inr (Or.inr (Or.inr (Or.inr ⟨t, ht, hk⟩)))))))) }

theorem RefAt.below {w w' : World} {M : RM} (h : RefAt w M) (hb : Below w.heap.size w w') : RefAt w' M := h.chg (Chg.of_below hb (fun _ => False)) (fun _ _ => id) (fun _ _ => id)

theorem RefAt.drewN {w : World} {M : RM} (h : RefAt w M) (n : Nat) : RefAt (w.drewN n) M := h.below (below_drewN (Below.refl _ _) n)

/-- Versions that are there. -/
def RM.liveAt (M : RM) (key i : Nat) : Bool := decide (0 ≤ ((M.tasks[i]?).map fun t => t.wr key).getD (-1))
def RM.liveOf (M : RM) (key : Nat) : Nat := (List.range (M.dealt.getD (key % M.parts) 0)).countP (M.liveAt key)
def RM.live (M : RM) : Nat := ((List.range 24).map M.liveOf).sum

theorem countP_range_succ (p : Nat → Bool) (k : Nat) : (List.range (k + 1)).countP p = (List.range k).countP p + (if p k then 1 else 0) := by
  rw [List.range_succ, List.countP_append]; simp [List.countP_cons]
theorem sum_range_succ (f : Nat → Nat) (k : Nat) : ((List.range (k + 1)).map f).sum = ((List.range k).map f).sum + f k := by
  rw [List.range_succ, List.map_append, List.sum_append]; simp

set_option maxHeartbeats 1000000 in
set_option maxRecDepth 100000 in
theorem rlive_any (M : RM) (w : World) (h : RefAt w M) :
    Calls Tryz.prog 79 #[.pointer (some ⟨M.b, 0, none⟩)] w fun e w' => e = .returned (.int .i64 M.live) ∧ ∃ n, w' = w.drewN n := by
  have c0 := h.row.cell' (i := 0) (v := .int .i64 M.parts) rfl
  have c6 := h.row.cell' (i := 6) (v := .slice M.deS.a M.deS.n M.deS.c) rfl
  rw [h.den, h.del] at c6
  have ht := h.txns
  have hlt := h.row.lt
  have hp8 := h.parts8
  have hp1 := h.parts1
  have del := hide h.del
  have HD := hide h.de.ints
  have HW := hide (fun q i hi key => rwrites_any M (w.drewN q) (h.drewN q) i hi key)
  have DL := hide (fun k (hk : k < M.dealt.length) => h.dealtle _ (List.getElem_mem hk))
  clear h
  go_enter Tryz.func79, Tryz.ntmps79
  go_wp2
  go_loopw [3, 4] (fun n t wr => ∃ k : Nat, k ≤ 24 ∧ t = .int .i64 k ∧ n = .int .i64 (((List.range k).map M.liveOf).sum : Nat) ∧ ((List.range k).map M.liveOf).sum ≤ k * 150 ∧ ∃ q, wr = w.drewN q) (fun _ t _ => 24 - (intOf t).toNat)
  case atStart => exact ⟨0, Nat.zero_le _, rfl, rfl, by simp, 0, rfl⟩
  case round =>
    obtain ⟨k, hk, rfl, rfl, hle, q, rfl⟩ := hrel
    by_cases hlt2 : k < 24
    · have hs := sum_range_succ M.liveOf k
      generalize ((List.range k).map M.liveOf).sum = n at *
      have hmod : k % M.parts < M.parts := Nat.mod_lt _ (by omega)
      have hld : k % M.parts < M.dealt.length := by rw [del.out]; exact hmod
      obtain ⟨b2, o2, hb2, hcb2, _⟩ := HD.out.at (k := k % M.parts) (by rw [nats_length]; exact hld)
      have hcj := hcb2 (k % M.parts) (by rw [nats_length]; exact hld)
      rw [nats_getD] at hcj
      have hD := DL.out _ hld
      rw [← nat_get hld] at hD
      have HS := hide hs
      have HL := hide (show M.liveOf k = (List.range (M.dealt.getD (k % M.parts) 0)).countP (M.liveAt k) from rfl)
      rw [hb2] at c6
      generalize M.dealt.getD (k % M.parts) 0 = D at *
      clear hs hcb2 hb2 HD hld DL
      have HM := hide hmod
      clear hmod
      have hd24 : decide ((k : Int) < 24) = true := by simp; omega
      go_wp2
      go_loopw [3, 5] (fun m t wr => ∃ j : Nat, j ≤ D ∧ t = .int .i64 j ∧ m = .int .i64 (n + (List.range j).countP (M.liveAt k) : Nat) ∧ (List.range j).countP (M.liveAt k) ≤ j ∧ ∃ q, wr = w.drewN q) (fun _ t _ => D - (intOf t).toNat)
      case atStart => exact ⟨0, Nat.zero_le _, rfl, by simp, by simp, q, rfl⟩
      case round =>
        obtain ⟨j, hj, rfl, rfl, hcle, q', rfl⟩ := hrel
        have hmod := HM.out
        have hdiv : Op.intDiv .rem .i64 (k : Int) (M.parts : Int) = pure (.int .i64 ((k % M.parts : Nat) : Int)) := by
          unfold Op.intDiv
          rw [if_neg (by omega)]
          simp only
          rw [Int.tmod_eq_emod_of_nonneg (by omega)]
          rfl
        by_cases hlj : j < D
        · have hss := countP_range_succ (M.liveAt k) j
          generalize (List.range j).countP (M.liveAt k) = c at *
          have HSS := hide hss
          clear hss
          have hjT : j < M.tasks.length := by omega
          have HWj := hide (fun q => HW.out q j hjT (k : Int))
          have HLA : Hid (M.liveAt k j = decide (0 ≤ M.tasks[j].wr k)) := by
            show M.liveAt k j = _
            simp [RM.liveAt, hjT]
          generalize M.tasks[j].wr (k : Int) = z at *
          by_cases hz : 0 ≤ z
          · have RR : Hid (∀ q : Nat, ∃ j' : Nat, j' ≤ D ∧ Value.int .i64 ((j : Int) + 1) = .int .i64 j' ∧ Value.int .i64 ((n : Int) + (c : Int) + 1) = .int .i64 (n + (List.range j').countP (M.liveAt k) : Nat) ∧ (List.range j').countP (M.liveAt k) ≤ j' ∧ ∃ q2, w.drewN q = w.drewN q2) := by
              intro q
              refine ⟨j + 1, by omega, by go_num, ?_, ?_, q, rfl⟩
              · rw [HSS.out, HLA.out]; simp only [hz, decide_true, if_true]; go_num
              · rw [HSS.out]; split <;> omega
            go_wp2
            go_quiet (fail)
            go_wp2_with fail
            refine (HWj.out _).mono ?_
            rintro e w' ⟨rfl, rfl⟩
            go_wp2
            go_roundw
            case rel => exact RR.out _
            case measure => simp [intOf]; omega
          · have RR : Hid (∀ q : Nat, ∃ j' : Nat, j' ≤ D ∧ Value.int .i64 ((j : Int) + 1) = .int .i64 j' ∧ Value.int .i64 ((n : Int) + (c : Int)) = .int .i64 (n + (List.range j').countP (M.liveAt k) : Nat) ∧ (List.range j').countP (M.liveAt k) ≤ j' ∧ ∃ q2, w.drewN q = w.drewN q2) := by
              intro q
              refine ⟨j + 1, by omega, by go_num, ?_, ?_, q, rfl⟩
              · rw [HSS.out, HLA.out]; simp only [hz, decide_false, Bool.false_eq_true, if_false]; go_num
              · rw [HSS.out]; split <;> omega
            go_wp2
            go_quiet (fail)
            go_wp2_with fail
            refine (HWj.out _).mono ?_
            rintro e w' ⟨rfl, rfl⟩
            go_wp2
            go_roundw
            case rel => exact RR.out _
            case measure => simp [intOf]; omega
        · have hjj : j = D := by omega
          subst hjj
          rw [← HL.out] at hcle ⊢
          generalize M.liveOf k = z at *
          clear HW
          go_wp2
          go_quiet (fail)
          go_wp2
          go_roundw
          case rel => exact ⟨k + 1, by omega, by go_num, by rw [HS.out], by rw [HS.out]; omega, _, rfl⟩
          case measure => simp [intOf]; omega
    · have hkk : k = 24 := by omega
      subst hkk
      have HU := hide (show M.live = ((List.range 24).map M.liveOf).sum from rfl)
      generalize ((List.range 24).map M.liveOf).sum = n at *
      clear HW HD
      go_wp2
      go_ret
      exact ⟨ret_int (by rw [HU.out]), _, rfl⟩

end Go.Proofs.YtlheloogmgmjnaaGreat
