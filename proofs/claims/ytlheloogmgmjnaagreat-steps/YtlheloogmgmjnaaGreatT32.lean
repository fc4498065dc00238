import Derived.Test.YtlheloogmgmjnaaGreatT29
import Derived.Test.YtlheloogmgmjnaaGreatT27
import Derived.Test.YtlheloogmgmjnaaGreatT20
import Derived.Test.YtlheloogmgmjnaaGreatT11
import Derived.Test.YtlheloogmgmjnaaGreatT31
import Derived.Test.YtlheloogmgmjnaaGreatT17
import Derived.Test.YtlheloogmgmjnaaGreatT22
namespace Go.Proofs.YtlheloogmgmjnaaGreat
open Go.RowKit

/-- The store of a struct into the middle of a block, in a region that does not draw its order. -/
theorem wpList_store_mid {P : Program} {w : World} {ops : Array Oper} {rest : List Oper} {o : Oper} {a : Act} {Q : Exit → Act → World → Prop}
    (hg : o.guard = none) (ty : TypeId) (x y : Operand) (ho : o.op = .store ty x y)
    (g off : Nat) (hx : a.eval x = .pointer (some ⟨g, off, none⟩)) (cs cur : List Value) (t : TypeId) (hgr : RowAt w g t cur) (hy : (a.eval y).cells = cs.toArray) (hl : off + cs.length ≤ cur.length)
    (hi : (P.info? ty).map (·.size) = some cs.length) (h1 : ∀ v ∈ cs, v.oneCell' = true)
    (hK : ∀ w', RowAt w' g t (spl cur off cs) → Chg w w' (· = g) → w'.heap.size = w.heap.size → wpList P ops Q rest (a.put o.dst undef) w') :
    wpList P ops Q (o :: rest) a w := by
  refine wpList_plain hg fun K' hK' => ?_
  exact wp_store_mid ty x y ho g off hx cs cur t hgr hy hl hi h1 (fun w' r1 r2 r3 => hK' _ _ (hK w' r1 r2 r3))

def SM.settled (M : SM) (txn : Nat) (ws : List Int) (sd : Nat → Say) (j : Nat) : SM := { M with vs := settleTo M.vs txn ws sd j }
theorem settleTo_length (vs : Nat → List Ver) (txn : Nat) (ws : List Int) (sd : Nat → Say) (k : Nat) : ∀ j, (settleTo vs txn ws sd j k).length = (vs k).length
  | 0 => rfl
  | j + 1 => by
    have := settleTo_length vs txn ws sd k j
    rw [settleTo_succ]
    split
    · split <;> simpa [settleV] using this
    · exact this
theorem settled_succ (M : SM) (txn : Nat) (ws : List Int) (sd : Nat → Say) (j kn : Nat) (hk : ws.getD j 0 = (kn : Int)) : M.settled txn ws sd (j + 1) =
    { (M.settled txn ws sd j) with vs := fun k => if k = kn then (if (sd j).said then settleV ((M.settled txn ws sd j).vs kn) txn 2 (sd j).v (sd j).th else settleV ((M.settled txn ws sd j).vs kn) txn 1 0 false) else (M.settled txn ws sd j).vs k } := by
  have : settleTo M.vs txn ws sd (j + 1) = fun k => if k = kn then (if (sd j).said then settleV (settleTo M.vs txn ws sd j kn) txn 2 (sd j).v (sd j).th else settleV (settleTo M.vs txn ws sd j kn) txn 1 0 false) else settleTo M.vs txn ws sd j k := by
    funext k
    rw [settleTo_succ, hk]
    by_cases e : k = kn
    · subst e; simp
    · have : ¬ (k : Int) = (kn : Int) := by omega
      rw [if_neg this, if_neg e]
  unfold SM.settled
  rw [this]

theorem doRow_oneCell (d : SDo) : ∀ v ∈ d.row, v.oneCell' = true := by
  intro v hv
  simp only [SDo.row, Mac.row, List.mem_cons, List.mem_append, ints, sayCells, List.mem_map, List.mem_flatMap, Say.row, List.not_mem_nil, or_false] at hv
  rcases hv with h | h | h | h | h | ⟨_, _, h⟩ | ⟨_, _, h | h | h⟩ | h <;> subst h <;> rfl
theorem doer_info2 : ∃ (i : TypeInfo), Tryz.prog.info? 110 = some i ∧ i.zero = some (.agg (SDo.row ⟨0, Mac.zero⟩).toArray) ∧ i.size = 30 ∧ i.bytes ≤ 1000 := by
  have h : ((Tryz.prog.info? 110).map (fun i => (i.zero, i.size, decide (i.bytes ≤ 1000)))) = some (some (.agg (SDo.row ⟨0, Mac.zero⟩).toArray), 30, true) := by kernel_rfl
  cases hq : Tryz.prog.info? 110 with
  | none => rw [hq] at h; cases h
  | some i =>
    rw [hq] at h
    simp only [Option.map_some, Option.some.injEq, Prod.mk.injEq, decide_eq_true_eq] at h
    exact ⟨i, rfl, h.1, h.2.1, h.2.2⟩
theorem doZero_row : (SDo.row ⟨0, Mac.zero⟩).length = 30 := rfl
theorem spl_mid {pre row cs suf : List Value} {off : Nat} (h : off = pre.length) (hl : cs.length = row.length) : spl (pre ++ (row ++ suf)) off cs = pre ++ (cs ++ suf) := by
  subst h
  unfold spl
  rw [List.take_left', List.drop_append, List.drop_eq_nil_of_le (by omega), Nat.add_sub_cancel_left, hl, List.drop_left']
  · simp
  · rfl
  · rfl
theorem Tryz.size110 : (Tryz.prog.info? 110).map (·.size) = some 30 := by kernel_rfl

set_option maxHeartbeats 8000000 in
set_option maxRecDepth 100000 in
theorem endIfDone_yes (M : SM) (w : World) (h : SAt w M) (n m : Nat) (d : SDo) (hd : M.dos[n]? = some d) (g : Nat) (hg : M.doS.a = some ⟨g, 0, none⟩) (he : (d.mac.ab || decide (d.mac.h.c.n ≤ d.mac.next)) = true)
    (hm : d.txn = m + 1) (r : PRec) (t : Tx) (hr : M.recs[m]? = some r) (ht : M.txs[m]? = some t) (hen : r.ended = false) (hvl : ∀ k, (M.vs k).length ≤ 500) :
    Calls Tryz.prog 124 #[.pointer (some ⟨M.b, 0, none⟩), .pointer (some ⟨g, n * 30, none⟩)] w fun e w' => e = .returned (.tuple #[]) ∧
      SAt w' (M.freed n m t.w d.mac.said d.mac.ab (d.mac.regs.getD 0 0)) ∧ Chg w w' (fun k => k ∈ M.mut) := by
  have hml : m < M.recs.length := by
    by_cases hb : m < M.recs.length
    · exact hb
    · rw [List.getElem?_eq_none (by omega)] at hr; cases hr
  have htx := h.txns
  have HDR := hide (h.dr d (List.mem_of_getElem? hd))
  generalize hout : d.mac.regs.getD 0 0 = out
  have HOUT := hide hout
  clear hout
  have DO : Hid (∀ wx M', SAt wx M' → M'.dos = M.dos → M'.doS = M.doS → ∃ pre suf, pre.length = n * 30 ∧ wx.cell? ⟨g, n * 30, none⟩ = some (.int .i64 ((m : Int) + 1)) ∧ RowAt wx g 110 (pre ++ (d.row ++ suf)) ∧ MacAt wx g 110 (pre ++ [.int .i64 d.txn]) suf d.mac ∧
      ∀ (w' : World) (d' : SDo), d'.mac.regs.length = 6 ∧ d'.mac.says.length = 6 → RowAt w' g 110 (pre ++ (d'.row ++ suf)) → Chg wx w' (· = g) → SAt w' { M' with dos := M'.dos.set n d' }) := hide (by
    intro wx M' hM e1 e2
    obtain ⟨g', pre, suf, hg', hpl, hct, hrow, hmac, _, back⟩ := hM.doer (n := n) (d := d) (by rw [e1]; exact hd)
    obtain rfl : g' = g := by rw [e2, hg] at hg'; simpa using hg'.symm
    rw [hm] at hct
    exact ⟨pre, suf, hpl, by simpa using hct, hrow, hmac, back⟩)
  have hgm : g ∈ M.mut := SM.mem_mut.2 (Or.inl (by simp only [SM.base, List.mem_cons, List.mem_append]; exact Or.inr (Or.inr (Or.inr (Or.inr (Or.inl (by simp [Sl.blk, hg])))))))
  obtain ⟨pre0, suf0, hpl0, hct0, _, hmac0, _⟩ := DO.out w M h rfl rfl
  have ME := hide (mEnded_any g 110 (pre0 ++ [.int .i64 d.txn]) suf0 d.mac w hmac0)
  have e1 : (pre0 ++ [Value.int .i64 d.txn]).length = n * 30 + 1 := by simp [hpl0]
  rw [he, e1] at ME
  have H := hide h
  have hOT := h.txn m r t hr ht hen
  have HWN := hide hOT.1.wn
  have HCK := hide (show checkN t = 0 from hOT.2.1)
  have hw6 := (checkN_sound t hOT.2.1).2.2.1
  clear h hg hmac0 e1 hOT
  go_enter Tryz.func124, Tryz.ntmps124
  go_wp2_with (go_at_call 160; refine ME.out.mono ?_; rintro e w' ⟨rfl, k0, rfl⟩)
  have H1 := hide (H.out.below (below_drewN (Below.refl _ _) k0))
  have C1 := hide (Chg.of_below (below_drewN (Below.refl w.heap.size w) k0) (fun k => k ∈ M.mut))
  clear hct0 hpl0 ME H
  generalize w.drewN k0 = w1 at *
  refine wp_region_U (L := #[true, true, true, true, true, true, true, true, true, true, true]) (S := (fun wz => Below w1.heap.size w1 wz)) (by kernel_rfl) (Below.refl _ _).drew ?_
  refine wpU_takeC (i := 0) (v := ?_) rfl (by kernel_rfl) (by kernel_rfl) (by kernel_rfl) (by kernel_rfl) (by kernel_rfl) (fun _ _ _ h => h) (by rfl) ?_ ?_
  rotate_left
  · intro wx hS; refine lands_value ?_ hS; go_simp <;> with_reducible rfl
  try simp only [List.getElem_toArray, List.getElem_cons_zero, Act.put, List.setIfInBounds_toArray, List.set_cons_zero, List.set_cons_succ]
  refine wpU_takeC (i := 1) (v := ?_) rfl (by kernel_rfl) (by kernel_rfl) (by kernel_rfl) (by kernel_rfl) (by kernel_rfl) (fun _ _ _ h => h) (by rfl) ?_ ?_
  rotate_left
  · intro wx hS; refine lands_value ?_ hS; go_simp <;> with_reducible rfl
  try simp only [List.getElem_toArray, List.getElem_cons_zero, List.getElem_cons_succ, Act.put, List.setIfInBounds_toArray, List.set_cons_zero, List.set_cons_succ]
  refine wpU_takeC (i := 2) (v := ?_) rfl (by kernel_rfl) (by kernel_rfl) (by kernel_rfl) (by kernel_rfl) (by kernel_rfl) (fun _ _ _ h => h) (by rfl) ?_ ?_
  rotate_left
  · intro wx hS; refine lands_value ?_ hS; go_simp <;> with_reducible rfl
  try simp only [List.getElem_toArray, List.getElem_cons_zero, List.getElem_cons_succ, Act.put, List.setIfInBounds_toArray, List.set_cons_zero, List.set_cons_succ]
  refine wpU_takeC (i := 3) (v := ?_) rfl (by kernel_rfl) (by kernel_rfl) (by kernel_rfl) (by kernel_rfl) (by kernel_rfl) (fun _ _ _ h => h) (by rfl) ?_ ?_
  rotate_left
  · intro wx hS; refine lands_value ?_ hS; go_simp <;> with_reducible rfl
  try simp only [List.getElem_toArray, List.getElem_cons_zero, List.getElem_cons_succ, Act.put, List.setIfInBounds_toArray, List.set_cons_zero, List.set_cons_succ]
  refine wpU_takeC (i := 4) (v := ?_) rfl (by kernel_rfl) (by kernel_rfl) (by kernel_rfl) (by kernel_rfl) (by kernel_rfl) (fun _ _ _ h => h) (by rfl) ?_ ?_
  rotate_left
  · intro wx hS; refine lands_value ?_ hS; go_simp <;> with_reducible rfl
  try simp only [List.getElem_toArray, List.getElem_cons_zero, List.getElem_cons_succ, Act.put, List.setIfInBounds_toArray, List.set_cons_zero, List.set_cons_succ]
  refine wpU_takeC (i := 5) (v := ?_) rfl (by kernel_rfl) (by kernel_rfl) (by kernel_rfl) (by kernel_rfl) (by kernel_rfl) (fun _ _ _ h => h) (by rfl) ?_ ?_
  rotate_left
  · intro wx hS; refine lands_value ?_ hS; go_simp <;> with_reducible rfl
  try simp only [List.getElem_toArray, List.getElem_cons_zero, List.getElem_cons_succ, Act.put, List.setIfInBounds_toArray, List.set_cons_zero, List.set_cons_succ]
  refine wpU_takeC (i := 6) (v := ?_) rfl (by kernel_rfl) (by kernel_rfl) (by kernel_rfl) (by kernel_rfl) (by kernel_rfl) (fun _ _ _ h => h) (by rfl) ?_ ?_
  rotate_left
  · intro wx hS; obtain ⟨_, _, _, hct, _⟩ := DO.out wx M (H1.out.below hS) rfl rfl; refine lands_value ?_ hS; go_simp <;> with_reducible rfl
  try simp only [List.getElem_toArray, List.getElem_cons_zero, List.getElem_cons_succ, Act.put, List.setIfInBounds_toArray, List.set_cons_zero, List.set_cons_succ]
  refine wpU_takeC (i := 7) (v := .agg #[.slice r.h.r.a r.h.r.n r.h.r.c, .slice r.h.w.a r.h.w.n r.h.w.c, .slice r.h.c.a r.h.c.n r.h.c.c]) rfl (by kernel_rfl) (by kernel_rfl) (by kernel_rfl) (by kernel_rfl) (by kernel_rfl) (fun _ _ _ h => h) (by rfl) ?_ ?_
  · intro wx hS; refine lands_enter (w := wx) (f := 85) (args := #[.pointer (some ⟨M.b, 2, none⟩), .int .i64 (m + 1 : Nat)]) (by go_simp) ?_; refine (iTxn_gen wx (H1.out.below hS).inAt m r hr (H1.out.below hS).row.lt).mono ?_; rintro e w2 ⟨rfl, hb⟩; exact ⟨rfl, below_on hS hb⟩
  try simp only [List.getElem_toArray, List.getElem_cons_zero, List.getElem_cons_succ, Act.put, List.setIfInBounds_toArray, List.set_cons_zero, List.set_cons_succ]
  refine wpU_takeC (i := 8) (v := ?_) rfl (by kernel_rfl) (by kernel_rfl) (by kernel_rfl) (by kernel_rfl) (by kernel_rfl) (fun _ _ _ h => h) (by rfl) ?_ ?_
  rotate_left
  · intro wx hS; have hfl := run_field_txn r.h.r.a r.h.w.a r.h.c.a r.h.r.n r.h.r.c r.h.w.n r.h.w.c r.h.c.n r.h.c.c wx; refine lands_value ?_ hS; go_simp <;> with_reducible rfl
  try simp only [List.getElem_toArray, List.getElem_cons_zero, List.getElem_cons_succ, Act.put, List.setIfInBounds_toArray, List.set_cons_zero, List.set_cons_succ]
  refine wpU_takeC (i := 9) (v := ?_) rfl (by kernel_rfl) (by kernel_rfl) (by kernel_rfl) (by kernel_rfl) (by kernel_rfl) (fun _ _ _ h => h) (by rfl) ?_ ?_
  rotate_left
  · intro wx hS; refine lands_value ?_ hS; go_simp <;> with_reducible rfl
  try simp only [List.getElem_toArray, List.getElem_cons_zero, List.getElem_cons_succ, Act.put, List.setIfInBounds_toArray, List.set_cons_zero, List.set_cons_succ]
  refine wpU_takeC (i := 10) (v := ?_) rfl (by kernel_rfl) (by kernel_rfl) (by kernel_rfl) (by kernel_rfl) (by kernel_rfl) (fun _ _ _ h => h) (by rfl) ?_ ?_
  rotate_left
  · intro wx hS; refine lands_value ?_ hS; go_simp <;> with_reducible rfl
  try simp only [List.getElem_toArray, List.getElem_cons_zero, List.getElem_cons_succ, Act.put, List.setIfInBounds_toArray, List.set_cons_zero, List.set_cons_succ]
  refine wpU_leaf' _ (by kernel_rfl) ?_
  intro wx hS
  refine wpAny_none _ (by kernel_rfl) ?_
  have SX := hide (H1.out.below hS)
  have CX := hide (C1.out.trans (Chg.of_below hS _))
  have hkeys := (checkN_sound t HCK.out).2.2.2.2.1
  clear hS H1 C1
  rw [HWN.out]
  generalize hwa : r.h.w.a = wa
  have HWA := hide hwa
  clear hwa
  try simp only [Act.put]
  go_wp2
  go_loopw [4, 5, 6, 7, 23] (fun _ _ _ _ ix wr => ∃ j : Nat, j ≤ t.w.length ∧ ix = .int .i64 j ∧ SAt wr (M.settled (m + 1) t.w d.mac.said j) ∧ Chg w wr (fun k => k ∈ M.mut)) (fun _ _ _ _ ix _ => t.w.length - (intOf ix).toNat)
  case atStart => exact ⟨0, Nat.zero_le _, rfl, SX.out, CX.out⟩
  case round =>
    obtain ⟨j, hj, rfl, hSj, hCj⟩ := hrel
    have HSj := hide hSj
    have HCj := hide hCj
    clear hSj hCj SX CX
    by_cases hjl : j < t.w.length
    · obtain ⟨hk0, hk24⟩ := hkeys t.w[j] (List.getElem_mem hjl)
      obtain ⟨kn, hkn⟩ : ∃ kn : Nat, t.w[j] = kn := ⟨t.w[j].toNat, (Int.toNat_of_nonneg hk0).symm⟩
      have hkn24 : kn < 24 := by omega
      have hjk : t.w[j]? = some (kn : Int) := by rw [List.getElem?_eq_getElem hjl, hkn]
      have hgd : t.w.getD j 0 = (kn : Int) := by rw [List.getD, hjk]; rfl
      have hOT := (HSj.out.txn m r t hr ht hen).1
      obtain ⟨bw, ow, hbw, hcw, _⟩ := hOT.wO.ints.at hjl
      have kc := hcw j hjl
      rw [hgd] at kc
      obtain rfl : wa = some ⟨bw, ow, none⟩ := HWA.out.symm.trans hbw
      obtain ⟨pre, suf, hpl, hct, _, hmac, _⟩ := DO.out wr _ HSj.out rfl rfl
      have MS := hide (mSaid_any g 110 (pre ++ [.int .i64 d.txn]) suf d.mac wr hmac j (by omega))
      have e1 : (pre ++ [Value.int .i64 d.txn]).length = n * 30 + 1 := by simp [hpl]
      rw [e1] at MS
      have HN := hide (settled_succ M (m + 1) t.w d.mac.said j kn hgd)
      have hql : kn % M.mks.length < M.mks.length := Nat.mod_lt _ HSj.out.mk1
      have hmk : (M.settled (m + 1) t.w d.mac.said j).mks[kn % M.mks.length]? = some M.mks[kn % M.mks.length] := List.getElem?_eq_getElem hql
      have emap : ((M.settled (m + 1) t.w d.mac.said j).mapOf (kn % M.mks.length) kn).getD Sl.nil = (M.settled (m + 1) t.w d.mac.said j).vsl kn := by
        show (if kn % M.mks.length = kn % M.mks.length then M.vS kn else none).getD Sl.nil = (M.vS kn).getD Sl.nil
        rw [if_pos rfl]
      have hl1 : ((M.settled (m + 1) t.w d.mac.said j).vs kn).length ≤ 1000 := by
        show (settleTo _ _ _ _ _ _).length ≤ _
        rw [settleTo_length]
        have := hvl kn
        omega
      have hvm : ∀ k ∈ ((M.settled (m + 1) t.w d.mac.said j).vsl kn).blk, k ∈ M.mut := fun k hk => SM.mem_mut.2 (Or.inr ⟨kn, hkn24, hk⟩)
      have VO := hide (fun wx (hb : Below wr.heap.size wr wx) => versionsOf_gen wx (HSj.out.below hb).mkAt kn hkn24 _ hmk)
      have hjl' : (j : Int) < (t.w.length : Int) := by omega
      have hwj : IntKind.i64.wrap ((j : Int) + 1) = ((j + 1 : Nat) : Int) := by rw [IntKind.wrap_i64]; omega
      have hgl : g < wr.heap.size := lt_of_cell hct
      clear hcw hOT hgd hbw hmac hpl e1
      by_cases hsd : (d.mac.said j).said = true
      · have SY := hide (fun wx (hb : Below wr.heap.size wr wx) => vSay_any M.mks[kn % M.mks.length].g ((M.settled (m + 1) t.w d.mac.said j).mapOf (kn % M.mks.length)) kn (m + 1) (d.mac.said j).v (d.mac.said j).th ((M.settled (m + 1) t.w d.mac.said j).vs kn) wx ((HSj.out.below hb).maps _ _ hmk) (by rw [emap]; exact (HSj.out.below hb).vers kn hkn24) hl1)
        rw [emap] at SY
        simp only [Int.natCast_add, Int.natCast_one] at SY
        rw [hsd] at MS
        rw [if_pos hsd] at HN
        generalize d.mac.said j = sy at *
        obtain ⟨sd, sv, sth⟩ := sy
        simp only at SY MS HN
        clear hsd
        generalize M.mks[kn % M.mks.length] = mk at *
        go_wp2_with (go_at_call 161; refine MS.out.mono ?_; rintro e w2 ⟨rfl, hb2⟩; have HB2 := hide hb2; have A2 := hide (rowAt_alloc w2 [.int .i64 sv, .bool sth] 103); have C2 := hide (below_on hb2 (below_alloc1 w2 (.cells #[.int .i64 sv, .bool sth] 103))); clear hb2 MS)
        have CW := hide C2.out
        have AW := hide A2.out
        change Hid (RowAt (w2.alloc (.cells #[.int .i64 sv, .bool sth] 103)) w2.heap.size 103 [.int .i64 sv, .bool sth]) at AW
        have hcW := cell_on hct CW.out
        generalize w2.alloc (.cells #[.int .i64 sv, .bool sth] 103) = W at *
        clear A2 C2 HB2
        refine wp_region_U (L := #[true, true, true, true, true, true, true, true, true, false]) (S := (fun wz => Below W.heap.size W wz)) (by kernel_rfl) (Below.refl _ _).drew ?_
        refine wpU_takeC (i := 0) (v := ?_) rfl (by kernel_rfl) (by kernel_rfl) (by kernel_rfl) (by kernel_rfl) (by kernel_rfl) (fun _ _ _ h => h) (by rfl) ?_ ?_
        rotate_left
        · intro wx hS; refine lands_value ?_ hS; go_simp <;> with_reducible rfl
        try simp only [List.getElem_toArray, List.getElem_cons_zero, Act.put, List.setIfInBounds_toArray, List.set_cons_zero, List.set_cons_succ]
        refine wpU_takeC (i := 1) (v := ?_) rfl (by kernel_rfl) (by kernel_rfl) (by kernel_rfl) (by kernel_rfl) (by kernel_rfl) (fun _ _ _ h => h) (by rfl) ?_ ?_
        rotate_left
        · intro wx hS; refine lands_value ?_ hS; go_simp <;> with_reducible rfl
        try simp only [List.getElem_toArray, List.getElem_cons_zero, List.getElem_cons_succ, Act.put, List.setIfInBounds_toArray, List.set_cons_zero, List.set_cons_succ]
        refine wpU_takeC (i := 2) (v := .map (some mk.g)) rfl (by kernel_rfl) (by kernel_rfl) (by kernel_rfl) (by kernel_rfl) (by kernel_rfl) (fun _ _ _ h => h) (by rfl) ?_ ?_
        · intro wx hS; refine lands_enter (w := wx) (f := 91) (args := #[.pointer (some ⟨M.b, 0, none⟩), .int .i64 kn]) (by go_simp) ?_; refine (VO.out wx (below_on CW.out hS)).mono ?_; rintro e w3 ⟨rfl, q, rfl⟩; exact ⟨rfl, below_drewN hS q⟩
        try simp only [List.getElem_toArray, List.getElem_cons_zero, List.getElem_cons_succ, Act.put, List.setIfInBounds_toArray, List.set_cons_zero, List.set_cons_succ]
        refine wpU_takeC (i := 3) (v := ?_) rfl (by kernel_rfl) (by kernel_rfl) (by kernel_rfl) (by kernel_rfl) (by kernel_rfl) (fun _ _ _ h => h) (by rfl) ?_ ?_
        rotate_left
        · intro wx hS; refine lands_value ?_ hS; go_simp <;> with_reducible rfl
        try simp only [List.getElem_toArray, List.getElem_cons_zero, List.getElem_cons_succ, Act.put, List.setIfInBounds_toArray, List.set_cons_zero, List.set_cons_succ]
        refine wpU_takeC (i := 4) (v := ?_) rfl (by kernel_rfl) (by kernel_rfl) (by kernel_rfl) (by kernel_rfl) (by kernel_rfl) (fun _ _ _ h => h) (by rfl) ?_ ?_
        rotate_left
        · intro wx hS; refine lands_value ?_ hS; go_simp <;> with_reducible rfl
        try simp only [List.getElem_toArray, List.getElem_cons_zero, List.getElem_cons_succ, Act.put, List.setIfInBounds_toArray, List.set_cons_zero, List.set_cons_succ]
        refine wpU_takeC (i := 5) (v := ?_) rfl (by kernel_rfl) (by kernel_rfl) (by kernel_rfl) (by kernel_rfl) (by kernel_rfl) (fun _ _ _ h => h) (by rfl) ?_ ?_
        rotate_left
        · intro wx hS; refine lands_value ?_ hS; go_simp <;> with_reducible rfl
        try simp only [List.getElem_toArray, List.getElem_cons_zero, List.getElem_cons_succ, Act.put, List.setIfInBounds_toArray, List.set_cons_zero, List.set_cons_succ]
        refine wpU_takeC (i := 6) (v := ?_) rfl (by kernel_rfl) (by kernel_rfl) (by kernel_rfl) (by kernel_rfl) (by kernel_rfl) (fun _ _ _ h => h) (by rfl) ?_ ?_
        rotate_left
        · intro wx hS; refine lands_value ?_ hS; go_simp <;> with_reducible rfl
        try simp only [List.getElem_toArray, List.getElem_cons_zero, List.getElem_cons_succ, Act.put, List.setIfInBounds_toArray, List.set_cons_zero, List.set_cons_succ]
        refine wpU_takeC (i := 7) (v := ?_) rfl (by kernel_rfl) (by kernel_rfl) (by kernel_rfl) (by kernel_rfl) (by kernel_rfl) (fun _ _ _ h => h) (by rfl) ?_ ?_
        rotate_left
        · intro wx hS; have c1 := cell_on hcW hS; refine lands_value ?_ hS; go_simp <;> with_reducible rfl
        try simp only [List.getElem_toArray, List.getElem_cons_zero, List.getElem_cons_succ, Act.put, List.setIfInBounds_toArray, List.set_cons_zero, List.set_cons_succ]
        refine wpU_takeC (i := 8) (v := ?_) rfl (by kernel_rfl) (by kernel_rfl) (by kernel_rfl) (by kernel_rfl) (by kernel_rfl) (fun _ _ _ h => h) (by rfl) ?_ ?_
        rotate_left
        · intro wx hS; have b0 := cell_on (AW.out.cell' (i := 0) rfl) hS; have b1 := cell_on (AW.out.cell' (i := 1) rfl) hS; refine lands_value ?_ hS; go_simp <;> with_reducible rfl
        try simp only [List.getElem_toArray, List.getElem_cons_zero, List.getElem_cons_succ, Act.put, List.setIfInBounds_toArray, List.set_cons_zero, List.set_cons_succ]
        refine wpU_leaf' _ (by kernel_rfl) ?_
        intro wx hS
        refine wpAny_last (n := 9) (by kernel_rfl) (by kernel_rfl) rfl (by rfl) ?_
        go_simp
        refine (SY.out wx (below_on CW.out hS)).mono ?_
        rintro e w3 ⟨rfl, h1, h2⟩
        have S3 := hide (sAt_settle (HSj.out.below (below_on CW.out hS)) hkn24 h1 h2)
        rw [← HN.out] at S3
        have C3 := hide ((HCj.out.trans (Chg.of_below (below_on CW.out hS) _)).trans (h2.mono (fun k _ hk => hvm k hk)))
        clear h1 h2 SY
        go_wp2
        go_roundw
        case rel => exact ⟨j + 1, by omega, by go_num, S3.out, C3.out⟩
        case measure => simp [intOf]; omega
      · have SY := hide (fun wx (hb : Below wr.heap.size wr wx) => vPass_any M.mks[kn % M.mks.length].g ((M.settled (m + 1) t.w d.mac.said j).mapOf (kn % M.mks.length)) kn (m + 1) ((M.settled (m + 1) t.w d.mac.said j).vs kn) wx ((HSj.out.below hb).maps _ _ hmk) (by rw [emap]; exact (HSj.out.below hb).vers kn hkn24) hl1)
        rw [emap] at SY
        simp only [Int.natCast_add, Int.natCast_one] at SY
        have hsd' : (d.mac.said j).said = false := by simpa using hsd
        rw [hsd'] at MS
        rw [if_neg hsd] at HN
        generalize d.mac.said j = sy at *
        obtain ⟨sd, sv, sth⟩ := sy
        simp only at MS
        clear hsd hsd'
        generalize M.mks[kn % M.mks.length] = mk at *
        go_wp2_with (go_at_call 161; refine MS.out.mono ?_; rintro e w2 ⟨rfl, hb2⟩; have HB2 := hide hb2; have A2 := hide (rowAt_alloc w2 [.int .i64 sv, .bool sth] 103); have C2 := hide (below_on hb2 (below_alloc1 w2 (.cells #[.int .i64 sv, .bool sth] 103))); clear hb2 MS)
        have CW := hide C2.out
        have AW := hide A2.out
        change Hid (RowAt (w2.alloc (.cells #[.int .i64 sv, .bool sth] 103)) w2.heap.size 103 [.int .i64 sv, .bool sth]) at AW
        have hcW := cell_on hct CW.out
        generalize w2.alloc (.cells #[.int .i64 sv, .bool sth] 103) = W at *
        clear A2 C2 HB2
        refine wp_region_U (L := #[true, true, true, true, true, true, true, true, false]) (S := (fun wz => Below W.heap.size W wz)) (by kernel_rfl) (Below.refl _ _).drew ?_
        refine wpU_takeC (i := 0) (v := ?_) rfl (by kernel_rfl) (by kernel_rfl) (by kernel_rfl) (by kernel_rfl) (by kernel_rfl) (fun _ _ _ h => h) (by rfl) ?_ ?_
        rotate_left
        · intro wx hS; refine lands_value ?_ hS; go_simp <;> with_reducible rfl
        try simp only [List.getElem_toArray, List.getElem_cons_zero, Act.put, List.setIfInBounds_toArray, List.set_cons_zero, List.set_cons_succ]
        refine wpU_takeC (i := 1) (v := ?_) rfl (by kernel_rfl) (by kernel_rfl) (by kernel_rfl) (by kernel_rfl) (by kernel_rfl) (fun _ _ _ h => h) (by rfl) ?_ ?_
        rotate_left
        · intro wx hS; refine lands_value ?_ hS; go_simp <;> with_reducible rfl
        try simp only [List.getElem_toArray, List.getElem_cons_zero, List.getElem_cons_succ, Act.put, List.setIfInBounds_toArray, List.set_cons_zero, List.set_cons_succ]
        refine wpU_takeC (i := 2) (v := .map (some mk.g)) rfl (by kernel_rfl) (by kernel_rfl) (by kernel_rfl) (by kernel_rfl) (by kernel_rfl) (fun _ _ _ h => h) (by rfl) ?_ ?_
        · intro wx hS; refine lands_enter (w := wx) (f := 91) (args := #[.pointer (some ⟨M.b, 0, none⟩), .int .i64 kn]) (by go_simp) ?_; refine (VO.out wx (below_on CW.out hS)).mono ?_; rintro e w3 ⟨rfl, q, rfl⟩; exact ⟨rfl, below_drewN hS q⟩
        try simp only [List.getElem_toArray, List.getElem_cons_zero, List.getElem_cons_succ, Act.put, List.setIfInBounds_toArray, List.set_cons_zero, List.set_cons_succ]
        refine wpU_takeC (i := 3) (v := ?_) rfl (by kernel_rfl) (by kernel_rfl) (by kernel_rfl) (by kernel_rfl) (by kernel_rfl) (fun _ _ _ h => h) (by rfl) ?_ ?_
        rotate_left
        · intro wx hS; refine lands_value ?_ hS; go_simp <;> with_reducible rfl
        try simp only [List.getElem_toArray, List.getElem_cons_zero, List.getElem_cons_succ, Act.put, List.setIfInBounds_toArray, List.set_cons_zero, List.set_cons_succ]
        refine wpU_takeC (i := 4) (v := ?_) rfl (by kernel_rfl) (by kernel_rfl) (by kernel_rfl) (by kernel_rfl) (by kernel_rfl) (fun _ _ _ h => h) (by rfl) ?_ ?_
        rotate_left
        · intro wx hS; refine lands_value ?_ hS; go_simp <;> with_reducible rfl
        try simp only [List.getElem_toArray, List.getElem_cons_zero, List.getElem_cons_succ, Act.put, List.setIfInBounds_toArray, List.set_cons_zero, List.set_cons_succ]
        refine wpU_takeC (i := 5) (v := ?_) rfl (by kernel_rfl) (by kernel_rfl) (by kernel_rfl) (by kernel_rfl) (by kernel_rfl) (fun _ _ _ h => h) (by rfl) ?_ ?_
        rotate_left
        · intro wx hS; refine lands_value ?_ hS; go_simp <;> with_reducible rfl
        try simp only [List.getElem_toArray, List.getElem_cons_zero, List.getElem_cons_succ, Act.put, List.setIfInBounds_toArray, List.set_cons_zero, List.set_cons_succ]
        refine wpU_takeC (i := 6) (v := ?_) rfl (by kernel_rfl) (by kernel_rfl) (by kernel_rfl) (by kernel_rfl) (by kernel_rfl) (fun _ _ _ h => h) (by rfl) ?_ ?_
        rotate_left
        · intro wx hS; refine lands_value ?_ hS; go_simp <;> with_reducible rfl
        try simp only [List.getElem_toArray, List.getElem_cons_zero, List.getElem_cons_succ, Act.put, List.setIfInBounds_toArray, List.set_cons_zero, List.set_cons_succ]
        refine wpU_takeC (i := 7) (v := ?_) rfl (by kernel_rfl) (by kernel_rfl) (by kernel_rfl) (by kernel_rfl) (by kernel_rfl) (fun _ _ _ h => h) (by rfl) ?_ ?_
        rotate_left
        · intro wx hS; have c1 := cell_on hcW hS; refine lands_value ?_ hS; go_simp <;> with_reducible rfl
        try simp only [List.getElem_toArray, List.getElem_cons_zero, List.getElem_cons_succ, Act.put, List.setIfInBounds_toArray, List.set_cons_zero, List.set_cons_succ]
        refine wpU_leaf' _ (by kernel_rfl) ?_
        intro wx hS
        refine wpAny_last (n := 8) (by kernel_rfl) (by kernel_rfl) rfl (by rfl) ?_
        go_simp
        refine (SY.out wx (below_on CW.out hS)).mono ?_
        rintro e w3 ⟨rfl, h1, h2⟩
        have S3 := hide (sAt_settle (HSj.out.below (below_on CW.out hS)) hkn24 h1 h2)
        rw [← HN.out] at S3
        have C3 := hide ((HCj.out.trans (Chg.of_below (below_on CW.out hS) _)).trans (h2.mono (fun k _ hk => hvm k hk)))
        clear h1 h2 SY
        go_wp2
        go_roundw
        case rel => exact ⟨j + 1, by omega, by go_num, S3.out, C3.out⟩
        case measure => simp [intOf]; omega
    · obtain rfl : j = t.w.length := by omega
      obtain ⟨pre, suf, hpl, hct, _, hmac, _⟩ := DO.out wr _ HSj.out rfl rfl
      have e1 : (pre ++ [Value.int .i64 d.txn]).length = n * 30 + 1 := by simp [hpl]
      clear hpl hmac
      go_wp2
      refine wp_region_U (L := #[true, true, true, true, true, true, true, true, true, true, true, false]) (S := (fun wz => Below wr.heap.size wr wz)) (by kernel_rfl) (Below.refl _ _).drew ?_
      refine wpU_takeC (i := 0) (v := ?_) rfl (by kernel_rfl) (by kernel_rfl) (by kernel_rfl) (by kernel_rfl) (by kernel_rfl) (fun _ _ _ h => h) (by rfl) ?_ ?_
      rotate_left
      · intro wx hS; refine lands_value ?_ hS; go_simp <;> with_reducible rfl
      try simp only [List.getElem_toArray, List.getElem_cons_zero, Act.put, List.setIfInBounds_toArray, List.set_cons_zero, List.set_cons_succ]
      refine wpU_takeC (i := 1) (v := ?_) rfl (by kernel_rfl) (by kernel_rfl) (by kernel_rfl) (by kernel_rfl) (by kernel_rfl) (fun _ _ _ h => h) (by rfl) ?_ ?_
      rotate_left
      · intro wx hS; refine lands_value ?_ hS; go_simp <;> with_reducible rfl
      try simp only [List.getElem_toArray, List.getElem_cons_zero, List.getElem_cons_succ, Act.put, List.setIfInBounds_toArray, List.set_cons_zero, List.set_cons_succ]
      refine wpU_takeC (i := 2) (v := ?_) rfl (by kernel_rfl) (by kernel_rfl) (by kernel_rfl) (by kernel_rfl) (by kernel_rfl) (fun _ _ _ h => h) (by rfl) ?_ ?_
      rotate_left
      · intro wx hS; refine lands_value ?_ hS; go_simp <;> with_reducible rfl
      try simp only [List.getElem_toArray, List.getElem_cons_zero, List.getElem_cons_succ, Act.put, List.setIfInBounds_toArray, List.set_cons_zero, List.set_cons_succ]
      refine wpU_takeC (i := 3) (v := ?_) rfl (by kernel_rfl) (by kernel_rfl) (by kernel_rfl) (by kernel_rfl) (by kernel_rfl) (fun _ _ _ h => h) (by rfl) ?_ ?_
      rotate_left
      · intro wx hS; refine lands_value ?_ hS; go_simp <;> with_reducible rfl
      try simp only [List.getElem_toArray, List.getElem_cons_zero, List.getElem_cons_succ, Act.put, List.setIfInBounds_toArray, List.set_cons_zero, List.set_cons_succ]
      refine wpU_takeC (i := 4) (v := ?_) rfl (by kernel_rfl) (by kernel_rfl) (by kernel_rfl) (by kernel_rfl) (by kernel_rfl) (fun _ _ _ h => h) (by rfl) ?_ ?_
      rotate_left
      · intro wx hS; refine lands_value ?_ hS; go_simp <;> with_reducible rfl
      try simp only [List.getElem_toArray, List.getElem_cons_zero, List.getElem_cons_succ, Act.put, List.setIfInBounds_toArray, List.set_cons_zero, List.set_cons_succ]
      refine wpU_takeC (i := 5) (v := ?_) rfl (by kernel_rfl) (by kernel_rfl) (by kernel_rfl) (by kernel_rfl) (by kernel_rfl) (fun _ _ _ h => h) (by rfl) ?_ ?_
      rotate_left
      · intro wx hS; refine lands_value ?_ hS; go_simp <;> with_reducible rfl
      try simp only [List.getElem_toArray, List.getElem_cons_zero, List.getElem_cons_succ, Act.put, List.setIfInBounds_toArray, List.set_cons_zero, List.set_cons_succ]
      refine wpU_takeC (i := 6) (v := ?_) rfl (by kernel_rfl) (by kernel_rfl) (by kernel_rfl) (by kernel_rfl) (by kernel_rfl) (fun _ _ _ h => h) (by rfl) ?_ ?_
      rotate_left
      · intro wx hS; have c1 := cell_on hct hS; refine lands_value ?_ hS; go_simp <;> with_reducible rfl
      try simp only [List.getElem_toArray, List.getElem_cons_zero, List.getElem_cons_succ, Act.put, List.setIfInBounds_toArray, List.set_cons_zero, List.set_cons_succ]
      refine wpU_takeC (i := 7) (v := ?_) rfl (by kernel_rfl) (by kernel_rfl) (by kernel_rfl) (by kernel_rfl) (by kernel_rfl) (fun _ _ _ h => h) (by rfl) ?_ ?_
      rotate_left
      · intro wx hS; refine lands_value ?_ hS; go_simp <;> with_reducible rfl
      try simp only [List.getElem_toArray, List.getElem_cons_zero, List.getElem_cons_succ, Act.put, List.setIfInBounds_toArray, List.set_cons_zero, List.set_cons_succ]
      refine wpU_takeC (i := 8) (v := ?_) rfl (by kernel_rfl) (by kernel_rfl) (by kernel_rfl) (by kernel_rfl) (by kernel_rfl) (fun _ _ _ h => h) (by rfl) ?_ ?_
      rotate_left
      · intro wx hS; refine lands_value ?_ hS; go_simp <;> with_reducible rfl
      try simp only [List.getElem_toArray, List.getElem_cons_zero, List.getElem_cons_succ, Act.put, List.setIfInBounds_toArray, List.set_cons_zero, List.set_cons_succ]
      refine wpU_takeC (i := 9) (v := ?_) rfl (by kernel_rfl) (by kernel_rfl) (by kernel_rfl) (by kernel_rfl) (by kernel_rfl) (fun _ _ _ h => h) (by rfl) ?_ ?_
      rotate_left
      · intro wx hS; refine lands_value ?_ hS; go_simp <;> with_reducible rfl
      try simp only [List.getElem_toArray, List.getElem_cons_zero, List.getElem_cons_succ, Act.put, List.setIfInBounds_toArray, List.set_cons_zero, List.set_cons_succ]
      refine wpU_takeC (i := 10) (v := .agg #[.bool d.mac.ab, .int .i64 out]) rfl (by kernel_rfl) (by kernel_rfl) (by kernel_rfl) (by kernel_rfl) (by kernel_rfl) (fun _ _ _ h => h) (by rfl) ?_ ?_
      · intro wx hS; refine lands_enter (w := wx) (f := 164) (args := #[.pointer (some ⟨g, n * 30 + 1, none⟩)]) (by go_simp) ?_; obtain ⟨p', s', hp', _, _, hm', _⟩ := DO.out wx _ (HSj.out.below hS) rfl rfl; have mr := mResult_any g 110 (p' ++ [.int .i64 d.txn]) s' d.mac wx hm'; rw [show (p' ++ [Value.int .i64 d.txn]).length = n * 30 + 1 by simp [hp'], HOUT.out] at mr; refine mr.mono ?_; rintro e w3 ⟨rfl, hb⟩; exact ⟨rfl, below_on hS hb⟩
      try simp only [List.getElem_toArray, List.getElem_cons_zero, List.getElem_cons_succ, Act.put, List.setIfInBounds_toArray, List.set_cons_zero, List.set_cons_succ]
      refine wpU_leaf' _ (by kernel_rfl) ?_
      intro wx hS
      refine wpAny_last (n := 11) (by kernel_rfl) (by kernel_rfl) rfl (by rfl) ?_
      go_simp
      have HIN : InAt wx M.b M.recs M.rcS M.ends M.enS := (HSj.out.below hS).inAt
      have IE := iEnd_gen wx HIN m hml d.mac.ab out
      simp only [Int.natCast_add, Int.natCast_one] at IE
      refine IE.mono ?_
      rintro e w3 ⟨rfl, h1, h2⟩
      have S3 := hide (sAt_endRec (M := M.settled (m + 1) t.w d.mac.said t.w.length) (HSj.out.below hS) h1 h2)
      have C3 := hide ((HCj.out.trans (Chg.of_below hS _)).trans (h2.mono (fun k _ (hk : k ∈ M.rcS.blk) => SM.mem_mut.2 (Or.inl (by simp [SM.base, hk])))))
      clear h1 h2 IE hS hct e1
      obtain ⟨pre, suf, hpl, _, hrow, _, back⟩ := DO.out w3 { M.settled (m + 1) t.w d.mac.said t.w.length with recs := M.recs.set m (PRec.endAs d.mac.ab out) } S3.out rfl rfl
      have HRow := hide hrow
      have BK := hide back
      have hgl3 := hrow.lt
      have HL := hide (show n * 30 + (SDo.row ⟨0, Mac.zero⟩).length ≤ (pre ++ (d.row ++ suf)).length by rw [doZero_row, List.length_append, List.length_append, SDo.row_length HDR.out, hpl]; omega)
      have HPL := hide hpl
      clear hrow back hpl
      go_wp2_with (refine wpList_store_mid rfl 110 (.tmp 71) (.tmp 70) rfl g (n * 30) rfl (SDo.row ⟨0, Mac.zero⟩) (pre ++ (d.row ++ suf)) 110 HRow.out (by rfl) HL.out Tryz.size110 (doRow_oneCell _) ?_; intro w4 hr4 hc4 hs4)
      have R4 := hide hr4
      have C4 := hide hc4
      clear hr4 hc4 hs4
      go_end0
      refine ⟨rfl, ?_, C3.out.trans (C4.out.mono (fun k _ (e : k = g) => by rw [e]; exact hgm))⟩
      refine BK.out w4 ⟨0, Mac.zero⟩ ⟨rfl, rfl⟩ ?_ C4.out
      have R5 := R4.out
      rw [spl_mid (by rw [HPL.out]) (by rw [doZero_row, SDo.row_length HDR.out])] at R5
      exact R5

end Go.Proofs.YtlheloogmgmjnaaGreat

namespace Go.Proofs.YtlheloogmgmjnaaGreat
open Go.RowKit

theorem mac_desc : ∃ fs, Tryz.prog.underlying 108 = some (.struct fs) := by
  have h : (Tryz.prog.underlying 108).map (fun d => match d with | .struct _ => true | _ => false) = some true := by kernel_rfl
  cases hq : Tryz.prog.underlying 108 with
  | none => rw [hq] at h; cases h
  | some d =>
    rw [hq] at h
    cases d with
    | struct fs => exact ⟨fs, rfl⟩
    | _ => simp at h
theorem Tryz.size108 : (Tryz.prog.info? 108).map (·.size) = some 29 := by kernel_rfl

theorem wpList_alloc_let {P : Program} {w : World} {ops : Array Oper} {rest : List Oper} {o : Oper} {a : Act} {Q : Exit → Act → World → Prop} (hg : o.guard = none) (ty : TypeId) (ho : o.op = .alloc ty) (z : Value) (zs : List Value)
    (hz : (P.info? ty).bind (·.zero) = some z) (hc : z.cells = zs.toArray)
    (h : ∀ w' g, g = w.heap.size → RowAt w' g ty zs → Below w.heap.size w w' → w'.heap.size = w.heap.size + 1 → wpList P ops Q rest (a.put o.dst (.pointer (some ⟨g, 0, none⟩))) w') : wpList P ops Q (o :: rest) a w :=
  wpList_plain hg fun _ hK => wp_alloc_let ty ho z zs hz hc (fun w' g h1 h2 h3 h4 => hK _ _ (h w' g h1 h2 h3 h4))
theorem mac_zero : (Tryz.prog.info? 108).bind (·.zero) = some (.agg Mac.zero.row.toArray) := by kernel_rfl
theorem macRow_oneCell (m : Mac) : ∀ v ∈ m.row, v.oneCell' = true := fun v hv => doRow_oneCell ⟨0, m⟩ v (by simp [SDo.row, hv])
theorem run_build_mac (ra wa ca : Option Addr) (rn rc wn wc cn cc : Nat) (w : World) : (Instr.build 108 #[(0, .agg #[.slice ra rn rc, .slice wa wn wc, .slice ca cn cc])]).run Tryz.prog w = .ok (.agg (Mac.begin ⟨⟨ra, rn, rc⟩, ⟨wa, wn, wc⟩, ⟨ca, cn, cc⟩⟩).row.toArray) w := by kernel_rfl
theorem wpList_build_mac {w : World} {ops : Array Oper} {rest : List Oper} {o : Oper} {a : Act} {Q : Exit → Act → World → Prop} (hg : o.guard = none) (x : Operand) (ho : o.op = .build 108 #[(0, x)]) (ra wa ca : Option Addr) (rn rc wn wc cn cc : Nat)
    (hx : a.eval x = .agg #[.slice ra rn rc, .slice wa wn wc, .slice ca cn cc]) (v : Value) (hv : v = .agg (Mac.begin ⟨⟨ra, rn, rc⟩, ⟨wa, wn, wc⟩, ⟨ca, cn, cc⟩⟩).row.toArray) (h : wpList Tryz.prog ops Q rest (a.put o.dst v) w) : wpList Tryz.prog ops Q (o :: rest) a w := by
  refine wpList_plain hg fun K' hK' => ?_
  unfold Oper.wp execOp
  simp only [ho, List.map_toArray, List.map_cons, List.map_nil, hx, run_build_mac, Result.andThen_ok, Sem.run_bind, Sem.run_pure]
  subst hv
  exact hK' _ _ h

set_option maxHeartbeats 1000000 in
set_option maxRecDepth 100000 in
theorem mNew_any (ra wa ca : Option Addr) (rn rc wn wc cn cc : Nat) (v : Value) (hv : v = .agg (Mac.begin ⟨⟨ra, rn, rc⟩, ⟨wa, wn, wc⟩, ⟨ca, cn, cc⟩⟩).row.toArray) (w : World) :
    Calls Tryz.prog 157 #[.agg #[.slice ra rn rc, .slice wa wn wc, .slice ca cn cc]] w fun e w' =>
      e = .returned v ∧ Below w.heap.size w w' := by
  have HV := hide hv
  clear hv
  have A0 := hide (rowAt_alloc w [.slice ra rn rc, .slice wa wn wc, .slice ca cn cc] 33)
  have B0 := hide (below_alloc1 w (.cells #[.slice ra rn rc, .slice wa wn wc, .slice ca cn cc] 33))
  go_enter Tryz.func157, Tryz.ntmps157
  go_wp2_with (first
    | (refine wpList_alloc_let rfl 108 rfl _ Mac.zero.row mac_zero rfl ?_; intro w1 g1 e1 hr1 hb1 hs1; have R1 := hide hr1; have B1 := hide (below_on B0.out hb1); have A1 := hide (A0.out.below' hb1); have c0 := A1.out.cell' (i := 0) rfl; have c1 := A1.out.cell' (i := 1) rfl; have c2 := A1.out.cell' (i := 2) rfl; have E1 := hide e1; clear hr1 hb1 hs1 e1)
    | (refine wpList_build_mac rfl (.tmp 3) rfl ra wa ca rn rc wn wc cn cc rfl v HV.out ?_)
    | (refine wpList_store_mid rfl 108 (.tmp 2) (.tmp 4) rfl g1 0 rfl (Mac.begin ⟨⟨ra, rn, rc⟩, ⟨wa, wn, wc⟩, ⟨ca, cn, cc⟩⟩).row Mac.zero.row 108 R1.out (by rw [show _ = v from rfl, HV.out]; rfl) (by exact Nat.le_refl 29) Tryz.size108 (macRow_oneCell _) ?_; intro w2 hr2 hc2 hs2; have R2 := hide hr2; have C2 := hide hc2; clear hr2 hc2 hs2))
  obtain ⟨fs, hd1⟩ := mac_desc
  have R3 := R2.out
  rw [show spl Mac.zero.row 0 (Mac.begin ⟨⟨ra, rn, rc⟩, ⟨wa, wn, wc⟩, ⟨ca, cn, cc⟩⟩).row = (Mac.begin ⟨⟨ra, rn, rc⟩, ⟨wa, wn, wc⟩, ⟨ca, cn, cc⟩⟩).row from rfl] at R3
  refine bodyPost_ret (results_cell_row Tryz.results157 _ _ g1 108 (Mac.begin ⟨⟨ra, rn, rc⟩, ⟨wa, wn, wc⟩, ⟨ca, cn, cc⟩⟩).row.toArray (0, 0) (.struct fs) ?_ R3 hd1 rfl ?_) ?_ ?_
  · rfl
  · exact Tryz.size108
  · rfl
  · exact ⟨by rw [HV.out], B1.out.trans (C2.out.belowB (fun k hk => by rw [hk, E1.out]; exact B0.out.size) B1.out.size)⟩

/-- How the store stands when it has been looked whether a doer's transaction has ended. -/
def SM.endD (M : SM) (n m : Nat) (d : SDo) (t : Tx) : SM := if (d.mac.ab || decide (d.mac.h.c.n ≤ d.mac.next)) = true then M.freed n m t.w d.mac.said d.mac.ab (d.mac.regs.getD 0 0) else M
theorem endIfDone_any (M : SM) (w : World) (h : SAt w M) (n m : Nat) (d : SDo) (hd : M.dos[n]? = some d) (g : Nat) (hg : M.doS.a = some ⟨g, 0, none⟩)
    (hm : d.txn = m + 1) (r : PRec) (t : Tx) (hr : M.recs[m]? = some r) (ht : M.txs[m]? = some t) (hen : r.ended = false) (hvl : ∀ k, (M.vs k).length ≤ 500) :
    Calls Tryz.prog 124 #[.pointer (some ⟨M.b, 0, none⟩), .pointer (some ⟨g, n * 30, none⟩)] w fun e w' => e = .returned (.tuple #[]) ∧ SAt w' (M.endD n m d t) ∧ Chg w w' (fun k => k ∈ M.mut) := by
  unfold SM.endD
  by_cases he : (d.mac.ab || decide (d.mac.h.c.n ≤ d.mac.next)) = true
  · rw [if_pos he]
    exact endIfDone_yes M w h n m d hd g hg he hm r t hr ht hen hvl
  · rw [if_neg he]
    refine (endIfDone_no M w h n d hd g hg (by simpa using he)).mono ?_
    rintro e w' ⟨rfl, k, rfl⟩
    exact ⟨rfl, h.below (below_drewN (Below.refl _ _) k), Chg.drewN _ _ _⟩

theorem run_build_do (x : Int) (ra wa ca : Option Addr) (rn rc wn wc cn cc : Nat) (w : World) : (Instr.build 110 #[(0, .int .i64 x), (1, .agg (Mac.begin ⟨⟨ra, rn, rc⟩, ⟨wa, wn, wc⟩, ⟨ca, cn, cc⟩⟩).row.toArray)]).run Tryz.prog w = .ok (.agg (.int .i64 x :: (Mac.begin ⟨⟨ra, rn, rc⟩, ⟨wa, wn, wc⟩, ⟨ca, cn, cc⟩⟩).row).toArray) w := by kernel_rfl
theorem wpList_build_do {w : World} {ops : Array Oper} {rest : List Oper} {o : Oper} {a : Act} {Q : Exit → Act → World → Prop} (hg : o.guard = none) (x y : Operand) (ho : o.op = .build 110 #[(0, x), (1, y)]) (ra wa ca : Option Addr) (rn rc wn wc cn cc n : Nat)
    (hx : a.eval x = .int .i64 (n : Nat)) {u : Value} (hy : a.eval y = u) (hu : u = .agg (Mac.begin ⟨⟨ra, rn, rc⟩, ⟨wa, wn, wc⟩, ⟨ca, cn, cc⟩⟩).row.toArray) (v : Value) (hv : v = .agg (SDo.row ⟨n, Mac.begin ⟨⟨ra, rn, rc⟩, ⟨wa, wn, wc⟩, ⟨ca, cn, cc⟩⟩⟩).toArray) (h : wpList Tryz.prog ops Q rest (a.put o.dst v) w) : wpList Tryz.prog ops Q (o :: rest) a w := by
  refine wpList_plain hg fun K' hK' => ?_
  unfold Oper.wp execOp
  subst hu
  simp only [ho, List.map_toArray, List.map_cons, List.map_nil, hx, hy, run_build_do, Result.andThen_ok, Sem.run_bind, Sem.run_pure]
  subst hv
  exact hK' _ _ h

set_option maxHeartbeats 2000000 in
set_option maxRecDepth 100000 in
theorem begin_any (M : SM) (w : World) (h : SAt w M) (n m : Nat) (d : SDo) (hd : M.dos[n]? = some d) (g : Nat) (hg : M.doS.a = some ⟨g, 0, none⟩)
    (r : PRec) (t : Tx) (hr : M.recs[m]? = some r) (ht : M.txs[m]? = some t) (hen : r.ended = false) (hvl : ∀ k, (M.vs k).length ≤ 500) :
    Calls Tryz.prog 121 #[.pointer (some ⟨M.b, 0, none⟩), .pointer (some ⟨g, n * 30, none⟩), .int .i64 ((m : Int) + 1)] w fun e w' => e = .returned (.tuple #[]) ∧
      SAt w' (SM.endD { M with dos := M.dos.set n ⟨m + 1, Mac.begin r.h⟩ } n m ⟨m + 1, Mac.begin r.h⟩ t) ∧ Chg w w' (fun k => k ∈ M.mut) := by
  have hdr := h.dr d (List.mem_of_getElem? hd)
  have hnl : n < M.dos.length := by
    by_cases hb : n < M.dos.length
    · exact hb
    · rw [List.getElem?_eq_none (by omega)] at hd; cases hd
  have hgm : g ∈ M.mut := SM.mem_mut.2 (Or.inl (by simp only [SM.base, List.mem_cons, List.mem_append]; exact Or.inr (Or.inr (Or.inr (Or.inr (Or.inl (by simp [Sl.blk, hg])))))))
  have TX := hide (fun wx (hb : Below w.heap.size w wx) => iTxn_gen wx (h.below hb).inAt m r hr (h.below hb).row.lt)
  simp only [Int.natCast_add, Int.natCast_one] at TX
  have H := hide h
  have HDR := hide hdr
  have HG := hide hg
  clear h hdr hg
  obtain ⟨⟨⟨ra, rn, rc⟩, ⟨wa, wn, wc⟩, ⟨ca, cn, cc⟩⟩, ren, rab, rout⟩ := r
  simp only [TH.cells] at TX
  have DO : Hid (∀ wx, Below w.heap.size w wx → ∃ pre suf, pre.length = n * 30 ∧ n * 30 + (SDo.row ⟨m + 1, Mac.begin ⟨⟨ra, rn, rc⟩, ⟨wa, wn, wc⟩, ⟨ca, cn, cc⟩⟩⟩).length ≤ (pre ++ (d.row ++ suf)).length ∧ RowAt wx g 110 (pre ++ (d.row ++ suf)) ∧
      ∀ (w' : World) (d' : SDo), d'.mac.regs.length = 6 ∧ d'.mac.says.length = 6 → RowAt w' g 110 (spl (pre ++ (d.row ++ suf)) (n * 30) d'.row) → Chg wx w' (· = g) → SAt w' { M with dos := M.dos.set n d' }) := hide (by
    intro wx hb
    obtain ⟨g', pre, suf, hg', hpl, _, hrow, _, _, back⟩ := (H.out.below hb).doer hd
    obtain rfl : g' = g := by rw [HG.out] at hg'; simpa using hg'.symm
    refine ⟨pre, suf, hpl, ?_, hrow, ?_⟩
    · rw [List.length_append, List.length_append, SDo.row_length HDR.out, SDo.row_length ⟨rfl, rfl⟩, hpl]; omega
    · intro w' d' h6 hr' hc'
      rw [spl_mid hpl.symm (by rw [SDo.row_length h6, SDo.row_length HDR.out])] at hr'
      exact back w' d' h6 hr' hc')
  have ED := hide (fun wx (hS : SAt wx { M with dos := M.dos.set n ⟨m + 1, Mac.begin ⟨⟨ra, rn, rc⟩, ⟨wa, wn, wc⟩, ⟨ca, cn, cc⟩⟩⟩ }) => endIfDone_any { M with dos := M.dos.set n ⟨m + 1, Mac.begin ⟨⟨ra, rn, rc⟩, ⟨wa, wn, wc⟩, ⟨ca, cn, cc⟩⟩⟩ } wx hS n m ⟨m + 1, Mac.begin ⟨⟨ra, rn, rc⟩, ⟨wa, wn, wc⟩, ⟨ca, cn, cc⟩⟩⟩ (List.getElem?_set_self hnl) g HG.out rfl _ t hr ht hen hvl)
  clear hd hr ht hen hvl
  obtain ⟨mv, hmv⟩ : ∃ mv, mv = Value.agg (Mac.begin ⟨⟨ra, rn, rc⟩, ⟨wa, wn, wc⟩, ⟨ca, cn, cc⟩⟩).row.toArray := ⟨_, rfl⟩
  have MV := hide hmv
  clear hmv
  obtain ⟨dv, hdv⟩ : ∃ dv, dv = Value.agg (SDo.row ⟨m + 1, Mac.begin ⟨⟨ra, rn, rc⟩, ⟨wa, wn, wc⟩, ⟨ca, cn, cc⟩⟩⟩).toArray := ⟨_, rfl⟩
  have DV := hide hdv
  clear hdv
  go_enter Tryz.func121, Tryz.ntmps121
  go_wp2_with (go_at_call 85; refine (TX.out _ (Below.refl _ _)).mono ?_; rintro e w1 ⟨rfl, hb1⟩; have HB1 := hide hb1; clear hb1 TX)
  go_wp2_with (first
    | (go_at_call 157; refine (mNew_any _ _ _ _ _ _ _ _ _ mv MV.out _).mono ?_; rintro e w2 ⟨rfl, hb2⟩; have B2 := hide (below_on HB1.out hb2); clear hb2; obtain ⟨pre, suf, _, hl2, hr2, hk2⟩ := DO.out w2 B2.out; have L2 := hide hl2; have R2 := hide hr2; have K2 := hide hk2; clear hl2 hr2 hk2)
    | (refine wpList_build_do rfl (.tmp 7) (.tmp 13) rfl ra wa ca rn rc wn wc cn cc (m + 1) (show Value.int .i64 ((m : Int) + 1) = .int .i64 ((m + 1 : Nat) : Int) by rw [Int.natCast_add, Int.natCast_one]) (show _ = mv from rfl) MV.out dv DV.out ?_)
    | (refine wpList_store_mid rfl 110 (.tmp 15) (.tmp 14) rfl g (n * 30) rfl (SDo.row ⟨m + 1, Mac.begin ⟨⟨ra, rn, rc⟩, ⟨wa, wn, wc⟩, ⟨ca, cn, cc⟩⟩⟩) (pre ++ (d.row ++ suf)) 110 R2.out (by rw [show _ = dv from rfl, DV.out]; rfl) L2.out Tryz.size110 (doRow_oneCell _) ?_; intro w4 hr4 hc4 hs4; have R4 := hide hr4; have C4 := hide hc4; clear hr4 hc4 hs4))
  have S4 := hide (K2.out w4 ⟨m + 1, Mac.begin ⟨⟨ra, rn, rc⟩, ⟨wa, wn, wc⟩, ⟨ca, cn, cc⟩⟩⟩ ⟨rfl, rfl⟩ R4.out C4.out)
  have CC := hide ((Chg.of_below B2.out (fun k => k ∈ M.mut)).trans (C4.out.mono (fun k _ (e : k = g) => by rw [e]; exact hgm)))
  refine (ED.out w4 S4.out).mono ?_
  rintro e w5 ⟨rfl, h5, h6⟩
  have S5 := hide h5
  have C5 := hide (CC.out.trans h6)
  clear h5 h6
  go_wp2
  go_end0
  exact ⟨rfl, S5.out, C5.out⟩

end Go.Proofs.YtlheloogmgmjnaaGreat

namespace Go.Proofs.YtlheloogmgmjnaaGreat
open Go.RowKit

set_option maxHeartbeats 2000000 in
set_option maxRecDepth 100000 in
theorem take_no (M : SM) (w : World) (h : SAt w M) (q : Option Addr) (hdl : ∀ m ∈ M.mks, m.dealt ≤ 1000) (hno : M.took = M.last) :
    Calls Tryz.prog 88 #[.pointer (some ⟨M.b, 0, none⟩), .pointer q] w fun e w' => e = .returned (.bool false) ∧ Below w.heap.size w w' := by
  have RD := hide (fun wx (hb : Below w.heap.size w wx) => sready_any M wx (h.below hb) hdl)
  have H := hide h
  rw [← hno] at RD
  clear h hdl hno
  go_enter Tryz.func88, Tryz.ntmps88
  go_wp2_with (go_at_call 59; refine (RD.out _ (Below.refl _ _)).mono ?_; rintro e w1 ⟨rfl, hb1⟩; have HB1 := hide hb1; have c6 := (H.out.below hb1).row.cell' (i := 6) rfl; clear hb1 RD)
  go_ret
  exact ⟨rfl, HB1.out⟩

set_option maxHeartbeats 2000000 in
set_option maxRecDepth 100000 in
theorem take_yes (M : SM) (w : World) (h : SAt w M) (n : Nat) (d : SDo) (hd : M.dos[n]? = some d) (g : Nat) (hg : M.doS.a = some ⟨g, 0, none⟩) (hdl : ∀ m ∈ M.mks, m.dealt ≤ 1000) (hyes : M.took ≠ M.last)
    (m : Nat) (hm : M.took = m) (r : PRec) (t : Tx) (hr : M.recs[m]? = some r) (ht : M.txs[m]? = some t) (hen : r.ended = false) (hvl : ∀ k, (M.vs k).length ≤ 500) :
    Calls Tryz.prog 88 #[.pointer (some ⟨M.b, 0, none⟩), .pointer (some ⟨g, n * 30, none⟩)] w fun e w' => e = .returned (.bool true) ∧
      SAt w' (SM.endD { M with took := m + 1, dos := M.dos.set n ⟨m + 1, Mac.begin r.h⟩ } n m ⟨m + 1, Mac.begin r.h⟩ t) ∧ Chg w w' (fun k => k ∈ M.mut) := by
  have hml : m < M.recs.length := by
    by_cases hb : m < M.recs.length
    · exact hb
    · rw [List.getElem?_eq_none (by omega)] at hr; cases hr
  have htx := h.txns
  have RD := hide (fun wx (hb : Below w.heap.size w wx) => sready_any M wx (h.below hb) hdl)
  have BG := hide (fun wx (hS : SAt wx { M with took := m + 1 }) => begin_any { M with took := m + 1 } wx hS n m d hd g hg r t hr ht hen hvl)
  have H := hide h
  have hbm : M.b ∈ M.mut := SM.mem_mut.2 (Or.inl (by simp [SM.base]))
  rw [hm] at hyes
  generalize M.last = L at *
  generalize M.ready = Rd at *
  have hne : ((m : Int) == (L : Int)) = false := by simp; omega
  have hwr : IntKind.i64.wrap ((m : Int) + 1) = (m : Int) + 1 := by rw [IntKind.wrap_i64]; omega
  have HM := hide hm
  clear h hdl hd hg hr ht hen hvl hyes hm
  go_enter Tryz.func88, Tryz.ntmps88
  go_wp2_with (go_at_call 59; refine (RD.out _ (Below.refl _ _)).mono ?_; rintro e w1 ⟨rfl, hb1⟩; have H1 := hide (H.out.below hb1); have C1 := hide (Chg.of_below hb1 (fun k => k ∈ M.mut)); have c6 := H1.out.row.cell' (i := 6) rfl; have f6 := H1.out.row.frozen 6; rw [HM.out] at c6; clear hb1 RD)
  have S2 := hide (sAt_took H1.out (n := m + 1) (H1.out.row.set 6 (.int .i64 ((m : Int) + 1))) (Chg.setCell w1 ⟨M.b, 6, none⟩ (.int .i64 ((m : Int) + 1))))
  have C2 := hide (C1.out.trans ((Chg.setCell w1 ⟨M.b, 6, none⟩ (.int .i64 ((m : Int) + 1))).mono (fun k _ (e : k = M.b) => by rw [e]; exact hbm)))
  refine (BG.out _ S2.out).mono ?_
  rintro e w3 ⟨rfl, h3, h4⟩
  have S3 := hide h3
  have C3 := hide (C2.out.trans h4)
  clear h3 h4
  go_wp2
  go_ret
  exact ⟨rfl, S3.out, C3.out⟩

end Go.Proofs.YtlheloogmgmjnaaGreat

namespace Go.Proofs.YtlheloogmgmjnaaGreat
open Go.RowKit

set_option maxHeartbeats 4000000 in
set_option maxRecDepth 100000 in
theorem advance_core (M : SM) (w : World) (h : SAt w M) (n m : Nat) (d : SDo) (hd : M.dos[n]? = some d) (g : Nat) (hg : M.doS.a = some ⟨g, 0, none⟩) (hm : d.txn = m + 1)
    (r : PRec) (t : Tx) (hr : M.recs[m]? = some r) (ht : M.txs[m]? = some t) (hen : r.ended = false) (hvl : ∀ k, (M.vs k).length ≤ 500) (known : Bool) (mac' : Mac)
    (MS : ∀ (wx : World) (pre suf : List Value), Below w.heap.size w wx → SAt wx M → pre.length = n * 30 → MacAt wx g 110 (pre ++ [.int .i64 d.txn]) suf d.mac →
      wx.cell? ⟨w.heap.size, 0, none⟩ = some (.pointer (some ⟨M.b, 0, none⟩)) → wx.cell? ⟨w.heap.size + 1, 0, none⟩ = some (.pointer (some ⟨g, n * 30, none⟩)) → wx.cell? ⟨w.heap.size + 2, 0, none⟩ = some (.func (.func 90) #[] #[]) →
      Calls Tryz.prog 123 #[.pointer (some ⟨g, n * 30 + 1, none⟩), .func (.func 122) #[] #[.pointer (some ⟨w.heap.size, 0, none⟩), .pointer (some ⟨w.heap.size + 1, 0, none⟩), .pointer (some ⟨w.heap.size + 2, 0, none⟩)]] wx fun e w' =>
        e = .returned (.bool known) ∧ (known = false → Below wx.heap.size wx w') ∧ (known = true → MacAt w' g 110 (pre ++ [.int .i64 d.txn]) suf mac' ∧ Chg wx w' (· = g))) :
    Calls Tryz.prog 89 #[.pointer (some ⟨M.b, 0, none⟩), .pointer (some ⟨g, n * 30, none⟩), .func (.func 90) #[] #[]] w fun e w' =>
      e = .returned (.bool known) ∧ (known = false → Below w.heap.size w w') ∧ (known = true → SAt w' (SM.endD { M with dos := M.dos.set n ⟨m + 1, mac'⟩ } n m ⟨m + 1, mac'⟩ t) ∧ Chg w w' (fun k => k ∈ M.mut)) := by
  have hnl : n < M.dos.length := by
    by_cases hb : n < M.dos.length
    · exact hb
    · rw [List.getElem?_eq_none (by omega)] at hd; cases hd
  have hgm : g ∈ M.mut := SM.mem_mut.2 (Or.inl (by simp only [SM.base, List.mem_cons, List.mem_append]; exact Or.inr (Or.inr (Or.inr (Or.inr (Or.inl (by simp [Sl.blk, hg])))))))
  have hglt := h.mut_lt g hgm
  have ED := hide (fun wx (hS : SAt wx { M with dos := M.dos.set n ⟨m + 1, mac'⟩ }) => endIfDone_any { M with dos := M.dos.set n ⟨m + 1, mac'⟩ } wx hS n m ⟨m + 1, mac'⟩ (List.getElem?_set_self hnl) g hg rfl r t hr ht hen hvl)
  have DO : Hid (∀ wx, Below w.heap.size w wx → ∃ pre suf, pre.length = n * 30 ∧ MacAt wx g 110 (pre ++ [.int .i64 d.txn]) suf d.mac ∧
      ∀ (w' : World), MacAt w' g 110 (pre ++ [.int .i64 d.txn]) suf mac' → Chg wx w' (· = g) → SAt w' { M with dos := M.dos.set n ⟨m + 1, mac'⟩ }) := hide (by
    intro wx hb
    obtain ⟨g', pre, suf, hg', hpl, _, _, hmac, _, back⟩ := (h.below hb).doer hd
    obtain rfl : g' = g := by rw [hg] at hg'; simpa using hg'.symm
    refine ⟨pre, suf, hpl, hmac, fun w' hm' hc' => back w' ⟨m + 1, mac'⟩ ⟨hm'.r6, hm'.s6⟩ ?_ hc'⟩
    have := hm'.row
    rw [hm, List.append_assoc] at this
    exact this)
  have HMS := hide MS
  have H := hide h
  clear h hd hg hm hr ht hen hvl MS
  have B1 := below_alloc1 w (.cells #[.pointer (some ⟨M.b, 0, none⟩)] 26)
  have B2 := below_alloc1 (w.alloc (.cells #[.pointer (some ⟨M.b, 0, none⟩)] 26)) (.cells #[.pointer (some ⟨g, n * 30, none⟩)] 100)
  have B3 := below_alloc1 ((w.alloc (.cells #[.pointer (some ⟨M.b, 0, none⟩)] 26)).alloc (.cells #[.pointer (some ⟨g, n * 30, none⟩)] 100)) (.cells #[.func (.func 90) #[] #[]] 180)
  have R1 := rowAt_alloc w [.pointer (some ⟨M.b, 0, none⟩)] 26
  have R2 := rowAt_alloc (w.alloc (.cells #[.pointer (some ⟨M.b, 0, none⟩)] 26)) [.pointer (some ⟨g, n * 30, none⟩)] 100
  have R3 := rowAt_alloc ((w.alloc (.cells #[.pointer (some ⟨M.b, 0, none⟩)] 26)).alloc (.cells #[.pointer (some ⟨g, n * 30, none⟩)] 100)) [.func (.func 90) #[] #[]] 180
  have e1 : (w.alloc (.cells #[.pointer (some ⟨M.b, 0, none⟩)] 26)).heap.size = w.heap.size + 1 := by simp
  have e2 : ((w.alloc (.cells #[.pointer (some ⟨M.b, 0, none⟩)] 26)).alloc (.cells #[.pointer (some ⟨g, n * 30, none⟩)] 100)).heap.size = w.heap.size + 2 := by simp
  have Q1 := (R1.below' B2).below' B3
  have Q2 := R2.below' B3
  rw [e1] at Q2
  have Q3 := R3
  rw [e2] at Q3
  have BW := hide (below_on (below_on B1 B2) B3)
  have HQ1 := hide Q1
  have HQ2 := hide Q2
  have HQ3 := hide Q3
  clear B1 B2 B3 R1 R2 R3 e1 e2 Q1 Q2 Q3
  go_enter Tryz.func89, Tryz.ntmps89
  go_wp2_with fail
  change Hid (RowAt (((w.alloc (.cells #[.pointer (some ⟨M.b, 0, none⟩)] 26)).alloc (.cells #[.pointer (some ⟨g, n * 30, none⟩)] 100)).alloc (.cells #[.func (.func 90) #[] #[]] 180)) (w.heap.size + 2) 180 [.func (.func 90) #[] #[]]) at HQ3
  generalize ((w.alloc (.cells #[.pointer (some ⟨M.b, 0, none⟩)] 26)).alloc (.cells #[.pointer (some ⟨g, n * 30, none⟩)] 100)).alloc (.cells #[.func (.func 90) #[] #[]] 180) = W at *
  obtain ⟨pre, suf, hpl, hmac, back⟩ := DO.out W BW.out
  refine (HMS.out W pre suf BW.out (H.out.below BW.out) hpl hmac (HQ1.out.cell' (i := 0) rfl) (HQ2.out.cell' (i := 0) rfl) (HQ3.out.cell' (i := 0) rfl)).mono ?_
  rintro e w1 ⟨rfl, k1, k2⟩
  have BK := hide back
  have K1 := hide k1
  have K2 := hide k2
  clear hpl hmac back k1 k2 DO HMS
  cases known with
  | false =>
    have hb := K1.out rfl
    have HB := hide (below_on BW.out hb)
    clear hb
    go_wp2
    go_ret
    exact ⟨rfl, HB.out⟩
  | true =>
    obtain ⟨hm1, hc1⟩ := K2.out rfl
    have S1 := hide (BK.out w1 hm1 hc1)
    have C1 := hide ((Chg.of_below BW.out (fun k => k ∈ M.mut)).trans (hc1.mono (fun k _ (e : k = g) => by rw [e]; exact hgm)))
    have x1 := (HQ1.out.chg hc1 (by omega)).cell' (i := 0) rfl
    have x2 := (HQ2.out.chg hc1 (by omega)).cell' (i := 0) rfl
    clear hm1 hc1 BK K1 K2
    go_wp2_with fail
    refine (ED.out w1 S1.out).mono ?_
    rintro e w2 ⟨rfl, h3, h4⟩
    have S3 := hide h3
    have C3 := hide (C1.out.trans h4)
    clear h3 h4
    go_wp2
    go_ret
    exact ⟨rfl, S3.out, C3.out⟩

theorem advance_do (M : SM) (w : World) (h : SAt w M) (n m : Nat) (d : SDo) (hd : M.dos[n]? = some d) (g : Nat) (hg : M.doS.a = some ⟨g, 0, none⟩) (hm : d.txn = m + 1)
    (r : PRec) (t : Tx) (hr : M.recs[m]? = some r) (ht : M.txs[m]? = some t) (hen : r.ended = false) (hvl : ∀ k, (M.vs k).length ≤ 500) (hh : d.mac.h = r.h) (hn : d.mac.next < t.c.length)
    (h67 : ¬ ((t.c.getD d.mac.next Ins.zero).op = 6 ∨ (t.c.getD d.mac.next Ins.zero).op = 7)) (mac' : Mac) (hmac' : mac' = { mdo d.mac (t.c.getD d.mac.next Ins.zero) with next := (mdo d.mac (t.c.getD d.mac.next Ins.zero)).next + 1 }) :
    Calls Tryz.prog 89 #[.pointer (some ⟨M.b, 0, none⟩), .pointer (some ⟨g, n * 30, none⟩), .func (.func 90) #[] #[]] w fun e w' =>
      e = .returned (.bool true) ∧ SAt w' (SM.endD { M with dos := M.dos.set n ⟨m + 1, mac'⟩ } n m ⟨m + 1, mac'⟩ t) ∧ Chg w w' (fun k => k ∈ M.mut) := by
  refine (advance_core M w h n m d hd g hg hm r t hr ht hen hvl true mac' ?_).mono ?_
  · intro wx pre suf _ hS hpl hmac _ _ _
    obtain ⟨ho, hck, _⟩ := hS.txn m r t hr ht hen
    have := mStep_do t hck g 110 (pre ++ [.int .i64 d.txn]) suf d.mac wx hmac (by rw [hh]; exact ho.tx hck) hn h67 (.func (.func 122) #[] #[.pointer (some ⟨w.heap.size, 0, none⟩), .pointer (some ⟨w.heap.size + 1, 0, none⟩), .pointer (some ⟨w.heap.size + 2, 0, none⟩)])
    rw [show (pre ++ [Value.int .i64 d.txn]).length = n * 30 + 1 by simp [hpl], ← hmac'] at this
    refine this.mono ?_
    rintro e w' ⟨rfl, a, b⟩
    exact ⟨rfl, fun h => (by cases h), fun _ => ⟨a, b⟩⟩
  · rintro e w' ⟨rfl, _, a⟩
    exact ⟨rfl, a rfl⟩

theorem advance_look (M : SM) (w : World) (h : SAt w M) (n m : Nat) (d : SDo) (hd : M.dos[n]? = some d) (g : Nat) (hg : M.doS.a = some ⟨g, 0, none⟩) (hm : d.txn = m + 1)
    (r : PRec) (t : Tx) (hr : M.recs[m]? = some r) (ht : M.txs[m]? = some t) (hen : r.ended = false) (hvl : ∀ k, (M.vs k).length ≤ 500) (hh : d.mac.h = r.h) (hn : d.mac.next < t.c.length)
    (h67 : (t.c.getD d.mac.next Ins.zero).op = 6 ∨ (t.c.getD d.mac.next Ins.zero).op = 7) (kn : Nat) (hkn : t.r.getD (t.c.getD d.mac.next Ins.zero).b.toNat 0 = (kn : Int)) (hk24 : kn < 24) (hs : VSorted (M.vs kn))
    (v : Int) (th known : Bool) (hv : behindV (M.vs kn) m (M.vs kn).length = (v, th, known)) (mac' : Mac)
    (hmac' : mac' = { d.mac with regs := d.mac.regs.set (t.c.getD d.mac.next Ins.zero).a.toNat (if (t.c.getD d.mac.next Ins.zero).op = 6 then v else if th then 1 else 0), next := d.mac.next + 1 }) :
    Calls Tryz.prog 89 #[.pointer (some ⟨M.b, 0, none⟩), .pointer (some ⟨g, n * 30, none⟩), .func (.func 90) #[] #[]] w fun e w' =>
      e = .returned (.bool known) ∧ (known = false → Below w.heap.size w w') ∧ (known = true → SAt w' (SM.endD { M with dos := M.dos.set n ⟨m + 1, mac'⟩ } n m ⟨m + 1, mac'⟩ t) ∧ Chg w w' (fun k => k ∈ M.mut)) := by
  refine advance_core M w h n m d hd g hg hm r t hr ht hen hvl known mac' ?_
  intro wx pre suf _ hS hpl hmac c0 c1 c2
  obtain ⟨ho, hck, _⟩ := hS.txn m r t hr ht hen
  have hml : m < M.recs.length := by
    by_cases hb : m < M.recs.length
    · exact hb
    · rw [List.getElem?_eq_none (by omega)] at hr; cases hr
  have htx := h.txns
  have hql : kn % M.mks.length < M.mks.length := Nat.mod_lt _ h.mk1
  have hmk : M.mks[kn % M.mks.length]? = some M.mks[kn % M.mks.length] := List.getElem?_eq_getElem hql
  have emap : (M.mapOf (kn % M.mks.length) kn).getD Sl.nil = M.vsl kn := by
    show (if kn % M.mks.length = kn % M.mks.length then M.vS kn else none).getD Sl.nil = (M.vS kn).getD Sl.nil
    rw [if_pos rfl]
  have := mStep_look t hck g 110 (pre ++ [.int .i64 d.txn]) suf d.mac wx hmac (by rw [hh]; exact ho.tx hck) hn h67 ⟨w.heap.size, 0, none⟩ ⟨w.heap.size + 1, 0, none⟩ ⟨w.heap.size + 2, 0, none⟩ v th known (by
    intro wy hb
    have hSy := hS.below hb
    obtain ⟨g', _, _, hg', _, hct, _⟩ := hSy.doer hd
    obtain rfl : g' = g := by rw [hg] at hg'; simpa using hg'.symm
    rw [hm] at hct
    rw [hkn]
    have := advance1_any wy hSy.mkAt kn (m + 1) g' (n * 30) hk24 (by omega) (by omega) _ hmk (M.mapOf (kn % M.mks.length)) (hSy.maps _ _ hmk) (M.vs kn) (by rw [emap]; exact hSy.vers kn hk24) (by have := hvl kn; omega) hs w.heap.size 0 (w.heap.size + 1) 0 (w.heap.size + 2) 0 (cell_on c0 hb) (cell_on c1 hb) (cell_on c2 hb) hct
    rw [show (((m + 1 : Nat) : Int) - 1) = (m : Int) by omega, hv] at this
    exact this)
  rw [show (pre ++ [Value.int .i64 d.txn]).length = n * 30 + 1 by simp [hpl], ← hmac'] at this
  exact this

end Go.Proofs.YtlheloogmgmjnaaGreat

namespace Go.Proofs.YtlheloogmgmjnaaGreat
open Go.RowKit

def RM.didN (R : RM) (m : Nat) : Nat := ((R.tasks[m]?).map fun t => t.crs.did.length).getD 0
def RM.insN (R : RM) (d m : Nat) : Ins := ((R.tasks[m]?).map fun t => t.tx.c.getD (t.crs.did.getD (R.dids.getD d 0) 0) Ins.zero).getD Ins.zero
def RM.dstep (R : RM) (d : Nat) : Bool × RM :=
  if R.hand.getD d 0 = 0 then
    (if R.ready ≠ 0 ∧ R.taken < R.ends.getD (R.ready - 1) 0 then (true, if R.didN R.taken = 0 then (R.took d).freed d R.taken else R.took d) else (false, R))
  else if R.waitN (R.hand.getD d 0 - 1) (R.insN d (R.hand.getD d 0 - 1)) then (false, R)
  else (true, if R.dids.getD d 0 + 1 = R.didN (R.hand.getD d 0 - 1) then (R.withDid d (R.dids.getD d 0 + 1)).freed d (R.hand.getD d 0 - 1) else R.withDid d (R.dids.getD d 0 + 1))
def RM.step (R : RM) (i : Int) : Bool × RM :=
  if i < 0 ∨ (R.parts : Int) + R.doers < i then (false, R)
  else if i < R.parts then (if R.dealt.getD i.toNat 0 < R.closed then (true, R.withDealt i.toNat (R.dealt.getD i.toNat 0 + 1)) else (false, R))
  else R.dstep (i - R.parts).toNat

theorem RM.dstep_foot (R : RM) (d : Nat) : (R.dstep d).2.foot = R.foot ∧ (R.dstep d).2.b = R.b := by
  unfold RM.dstep
  split
  · split
    · split
      · exact ⟨foot_freed (R.took d) d R.taken, rfl⟩
      · exact ⟨rfl, rfl⟩
    · exact ⟨rfl, rfl⟩
  · split
    · exact ⟨rfl, rfl⟩
    · dsimp only
      split
      · exact ⟨foot_freed (R.withDid d _) d _, rfl⟩
      · exact ⟨rfl, rfl⟩
theorem RM.didN_eq {R : RM} {m : Nat} (hm : m < R.tasks.length) : R.didN m = (R.tasks[m]).crs.did.length := by
  unfold RM.didN
  rw [List.getElem?_eq_getElem hm]; rfl
theorem RM.insN_eq {R : RM} {d m : Nat} (hm : m < R.tasks.length) : R.insN d m = (R.tasks[m]).tx.c.getD ((R.tasks[m]).crs.did.getD (R.dids.getD d 0) 0) Ins.zero := by
  unfold RM.insN
  rw [List.getElem?_eq_getElem hm]; rfl
theorem Rel.last_lt {M : SM} {R : RM} {X : Nat → Prop} (h : Rel M R X) : M.last ≤ R.tasks.length := by
  have h1 := h.last_least
  have h2 := h.parts1
  have h3 : 0 < R.dealt.length := by have := h.parts; omega
  have h4 := h.least_le _ (List.getElem_mem h3)
  have h5 := h.dealtle _ (List.getElem_mem h3)
  have h6 := h.closedle
  omega

/-- A doer's transaction, in both. -/
structure InHand (M : SM) (R : RM) (d m : Nat) : Prop where
  hand : R.hand.getD d 0 = m + 1
  lt : m < R.tasks.length
  ended : (R.tasks[m]).ended = false
  did : R.dids.getD d 0 < (R.tasks[m]).crs.did.length
  crs : (R.tasks[m]).crs = goCrs (R.tasks[m]).tx (behindTo (R.tasks.map (·.tx)) m)
  pc : (R.tasks[m]).crs.did.getD (R.dids.getD d 0) 0 = (gst (R.tasks[m]).tx (behindTo (R.tasks.map (·.tx)) m) (R.dids.getD d 0)).pc
  pclt : (gst (R.tasks[m]).tx (behindTo (R.tasks.map (·.tx)) m) (R.dids.getD d 0)).pc < (R.tasks[m]).tx.c.length
  did30 : R.dids.getD d 0 ≤ 30
  mac : ∃ x r, M.dos[d]? = some x ∧ x.txn = m + 1 ∧ M.recs[m]? = some r ∧ r.ended = false ∧ x.mac.h = r.h ∧ MacRel x.mac (gst (R.tasks[m]).tx (behindTo (R.tasks.map (·.tx)) m) (R.dids.getD d 0))

theorem Rel.inHand {M : SM} {R : RM} (h : Rel M R) {d : Nat} (hd : d < R.doers) {m : Nat} (h0 : R.hand.getD d 0 = m + 1) : InHand M R d m := by
  have hdl : d < M.dos.length := by rw [h.dos]; exact hd
  have hx := List.getElem?_eq_getElem hdl
  have htx := h.hand d _ hx
  rw [h0] at htx
  obtain ⟨t, r, b1, b2, b3, b4, b5, b6⟩ := h.doer d _ id hx m htx
  have hml : m < R.tasks.length := by
    by_cases hb : m < R.tasks.length
    · exact hb
    · rw [List.getElem?_eq_none (by omega)] at b1; cases b1
  rw [List.getElem?_eq_getElem hml] at b1
  obtain rfl := Option.some.inj b1
  have hcrs := h.serial m hml
  have hdid : R.dids.getD d 0 < (goCrs (R.tasks[m]).tx (behindTo (R.tasks.map (·.tx)) m)).did.length := by rw [← hcrs]; exact b5
  obtain ⟨p1, p2⟩ := goCrs_did_get _ _ hdid
  have hc := checkN_sound _ (h.chk _ (List.getElem_mem hml))
  have hlen := (goCrs_did (R.tasks[m]).tx (behindTo (R.tasks.map (·.tx)) m)).2.1
  obtain ⟨t', ht', he', _⟩ := h.recs m r b2
  rw [List.getElem?_eq_getElem hml] at ht'
  obtain rfl := Option.some.inj ht'
  exact ⟨h0, hml, b3, b5, hcrs, by rw [hcrs]; exact p1, p2, by omega, _, r, hx, htx, b2, by rw [he']; exact b3, b4, b6⟩

theorem rdoer_any (M : SM) (R : RM) (ha : Rel M R) (w : World) (h : RefAt w R) (d : Nat) (hd : d < R.doers) :
    Calls Tryz.prog 80 #[.pointer (some ⟨R.b, 0, none⟩), .int .i64 d] w fun e w' => e = .returned (.bool (R.dstep d).1) ∧ RefAt w' (R.dstep d).2 ∧ Chg w w' (fun k => k ∈ R.mut) := by
  by_cases h0 : R.hand.getD d 0 = 0
  · by_cases hc : R.ready ≠ 0 ∧ R.taken < R.ends.getD (R.ready - 1) 0
    · have hlt : R.taken < R.tasks.length := by
        have h1 := ha.last
        rw [if_neg hc.1] at h1
        have h2 := ha.last_lt
        omega
      refine (rdoer_take R w h d hd h0 hc hlt).mono ?_
      rintro e w' ⟨R', rfl, hr, hch, _, _, a1, a2⟩
      unfold RM.dstep
      rw [if_pos h0, if_pos hc, RM.didN_eq hlt]
      refine ⟨rfl, ?_, hch⟩
      by_cases hz : (R.tasks[R.taken]).crs.did.length = 0
      · rw [if_pos hz, ← a1 hz]; exact hr
      · rw [if_neg hz, ← a2 hz]; exact hr
    · refine (rdoer_none R w h d hd h0 hc).mono ?_
      rintro e w' ⟨rfl, hb⟩
      unfold RM.dstep
      rw [if_pos h0, if_neg hc]
      exact ⟨rfl, h.below hb, Chg.of_below hb _⟩
  · obtain ⟨m, hm⟩ : ∃ m, R.hand.getD d 0 = m + 1 := ⟨R.hand.getD d 0 - 1, by omega⟩
    have H := ha.inHand hd hm
    have em : R.hand.getD d 0 - 1 = m := by omega
    have hpc : (R.tasks[m]'H.lt).crs.did.getD (R.dids.getD d 0) 0 < (R.tasks[m]'H.lt).tx.c.length := by rw [H.pc]; exact H.pclt
    by_cases hw : R.waitN m (R.insN d m) = true
    · refine (rdoer_wait R w h d m hd hm H.lt H.did hpc (by rw [← RM.insN_eq H.lt]; exact hw)).mono ?_
      rintro e w' ⟨rfl, hb⟩
      unfold RM.dstep
      rw [if_neg h0, em, if_pos hw]
      exact ⟨rfl, h.below hb, Chg.of_below hb _⟩
    · refine (rdoer_go R w h d m hd hm H.lt H.did hpc (by rw [← RM.insN_eq H.lt]; simpa using hw) H.did30).mono ?_
      rintro e w' ⟨R', rfl, hr, hch, _, _, a1, a2⟩
      unfold RM.dstep
      rw [if_neg h0, em, if_neg hw, RM.didN_eq H.lt]
      refine ⟨rfl, ?_, hch⟩
      by_cases hz : R.dids.getD d 0 + 1 = (R.tasks[m]'H.lt).crs.did.length
      · rw [if_pos hz, ← a1 hz]; exact hr
      · rw [if_neg hz, ← a2 hz]; exact hr

theorem RM.step_foot (R : RM) (i : Int) : (R.step i).2.foot = R.foot ∧ (R.step i).2.b = R.b := by
  unfold RM.step
  split
  · exact ⟨rfl, rfl⟩
  · split
    · split
      · exact ⟨rfl, rfl⟩
      · exact ⟨rfl, rfl⟩
    · exact R.dstep_foot _

theorem rStep_any (M : SM) (R : RM) (ha : Rel M R) (w : World) (h : RefAt w R) (i : Int) (hi : i ≠ (R.parts : Int) + R.doers) :
    Calls Tryz.prog 45 #[.pointer (some ⟨R.b, 0, none⟩), .int .i64 i] w fun e w' => e = .returned (.bool (R.step i).1) ∧ RefAt w' (R.step i).2 ∧ Chg w w' (fun k => k ∈ R.mut) := by
  by_cases h1 : i < 0 ∨ (R.parts : Int) + R.doers < i
  · refine (rStep_off R w h i h1).mono ?_
    rintro e w' ⟨rfl, hb⟩
    unfold RM.step
    rw [if_pos h1]
    exact ⟨rfl, h.below hb, Chg.of_below hb _⟩
  · by_cases h2 : i < R.parts
    · obtain ⟨n, rfl⟩ : ∃ n : Nat, i = n := ⟨i.toNat, by omega⟩
      refine (rStep_maker R w h n (by omega)).mono ?_
      rintro e w' ⟨R', rfl, hr, hch, _, _, a1, a2⟩
      unfold RM.step
      rw [if_neg h1, if_pos h2, Int.toNat_natCast]
      by_cases hz : R.dealt.getD n 0 < R.closed
      · rw [if_pos hz]
        exact ⟨by rw [decide_eq_true hz], by rw [← a1 hz]; exact hr, hch⟩
      · rw [if_neg hz]
        exact ⟨by rw [decide_eq_false hz], by rw [← a2 hz]; exact hr, hch⟩
    · obtain ⟨d, hd⟩ : ∃ d : Nat, i = (R.parts : Int) + d := ⟨(i - R.parts).toNat, by omega⟩
      subst hd
      have hdl : d < R.doers := by omega
      refine (rStep_doer R w h d hdl (fun e w' => e = .returned (.bool (R.dstep d).1) ∧ RefAt w' (R.dstep d).2 ∧ Chg w w' (fun k => k ∈ R.mut)) (fun wx hr hb => ?_)).mono ?_
      · refine (rdoer_any M R ha wx hr d hdl).mono ?_
        rintro e w' ⟨rfl, q1, q2⟩
        exact ⟨⟨_, rfl⟩, rfl, q1, (Chg.of_below hb _).trans q2⟩
      · rintro e w' q
        unfold RM.step
        rw [if_neg h1, if_neg h2, show ((R.parts : Int) + d - R.parts).toNat = d by omega]
        exact q

end Go.Proofs.YtlheloogmgmjnaaGreat

namespace Go.Proofs.YtlheloogmgmjnaaGreat
open Go.RowKit

theorem did_zero (t : Tx) (hv : List Slot) : (goCrs t hv).did.length = 0 ↔ t.c.length = 0 := by
  obtain ⟨k, _, h2, h3 | ⟨h3, h4⟩⟩ := goCrs_ends t hv
  · rw [goCrs_end t hv k h2 h3]
    show (pcs t hv k).length = 0 ↔ _
    rw [pcs_length]
    constructor
    · intro e; subst e
      have : ¬ 0 < t.c.length := h3
      omega
    · intro e
      by_cases h0 : k = 0
      · exact h0
      · have := (h2 0 (by omega)).1
        omega
  · rw [goCrs_abort t hv k h2 h3 h4]
    show (pcs t hv (k + 1)).length = 0 ↔ _
    rw [pcs_length]
    constructor
    · intro e; omega
    · intro e; omega

/-- What is left of the exempt doer's transaction: it goes on, or it has ended. -/
theorem rel_endD {M : SM} {R : RM} {n m : Nat} (h : Rel M R (· = n)) {mac : Mac} (hn : M.dos[n]? = some ⟨m + 1, mac⟩) {t : Tsk} {r : PRec} (ht : R.tasks[m]? = some t) (hr : M.recs[m]? = some r) (he : t.ended = false) (hh : mac.h = r.h) (hcn : r.h.c.n = t.tx.c.length)
    (hd : R.dids.getD n 0 ≤ t.crs.did.length) (hrun : ∀ i, i < R.dids.getD n 0 → Runs t.tx (behindTo (R.tasks.map (·.tx)) m) i) (hcrs : t.crs = goCrs t.tx (behindTo (R.tasks.map (·.tx)) m))
    (hend : R.dids.getD n 0 = t.crs.did.length ↔ ¬ (gst t.tx (behindTo (R.tasks.map (·.tx)) m) (R.dids.getD n 0)).pc < t.tx.c.length)
    (hm : MacRel mac (gst t.tx (behindTo (R.tasks.map (·.tx)) m) (R.dids.getD n 0))) :
    Rel (M.endD n m ⟨m + 1, mac⟩ t.tx) (if R.dids.getD n 0 = t.crs.did.length then R.freed n m else R) := by
  have hflag : (mac.ab || decide (mac.h.c.n ≤ mac.next)) = true ↔ R.dids.getD n 0 = t.crs.did.length := by
    rw [hend, hm.ab, hh, hcn, hm.next]
    simp
  unfold SM.endD
  by_cases hz : R.dids.getD n 0 = t.crs.did.length
  · rw [if_pos hz, if_pos (hflag.2 hz)]
    obtain ⟨e1, e2, e3⟩ := mac_end hm hrun (hend.1 hz)
    rw [← hcrs] at e1 e2 e3
    exact rel_free h hn rfl ht e1 e2 e3
  · rw [if_neg hz, if_neg (fun q => hz (hflag.1 q))]
    exact rel_back h hn rfl ht hr he hh (by omega) hm

/-- The exempt doer's transaction is aborted. -/
theorem rel_abortD {M : SM} {R : RM} {n m k : Nat} (h : Rel M R (· = n)) {mac mac' : Mac} (hn : M.dos[n]? = some ⟨m + 1, mac'⟩) {t : Tsk} (ht : R.tasks[m]? = some t) (hcrs : t.crs = goCrs t.tx (behindTo (R.tasks.map (·.tx)) m))
    (hrun : ∀ i, i < k → Runs t.tx (behindTo (R.tasks.map (·.tx)) m) i) (hm : MacRel mac (gst t.tx (behindTo (R.tasks.map (·.tx)) m) k)) (h1 : (gst t.tx (behindTo (R.tasks.map (·.tx)) m) k).pc < t.tx.c.length) (h2 : ((gst t.tx (behindTo (R.tasks.map (·.tx)) m) k).ins t.tx).op = 11)
    (hab : mac'.ab = true) (hreg : mac'.regs = mac.regs) :
    Rel (M.endD n m ⟨m + 1, mac'⟩ t.tx) (R.freed n m) := by
  unfold SM.endD
  rw [if_pos (by rw [hab]; rfl)]
  obtain ⟨e1, e2, e3⟩ := mac_abort hm hrun h1 h2
  rw [← hcrs] at e1 e2 e3
  refine rel_free h hn rfl ht (hab.trans e1) (by rw [hreg]; exact e2) ?_
  intro i hi
  have hz : mac'.said i = ⟨false, 0, false⟩ := by unfold Mac.said; rw [if_pos hab]
  rw [hz, e3 i hi]
  exact ⟨rfl, fun q => by cases q⟩

/-- A doer takes the next transaction. -/
theorem rel_takeD {M : SM} {R : RM} (h : Rel M R) {n : Nat} (hn : n < R.doers) (h0 : R.hand.getD n 0 = 0) (hc : R.ready ≠ 0 ∧ R.taken < R.ends.getD (R.ready - 1) 0) {r : PRec} (hr : M.recs[R.taken]? = some r) {t : Tsk} (ht : R.tasks[R.taken]? = some t) (hcn : r.h.c.n = t.tx.c.length) :
    Rel (SM.endD { M with took := R.taken + 1, dos := M.dos.set n ⟨R.taken + 1, Mac.begin r.h⟩ } n R.taken ⟨R.taken + 1, Mac.begin r.h⟩ t.tx) (R.dstep n).2 := by
  have hnl : n < M.dos.length := by rw [h.dos]; exact hn
  have hlast : R.taken < M.last := by
    have := h.last
    rw [if_neg hc.1] at this
    omega
  have hml : R.taken < R.tasks.length := by
    by_cases hb : R.taken < R.tasks.length
    · exact hb
    · rw [List.getElem?_eq_none (by omega)] at ht; cases ht
  have htm : R.tasks[R.taken] = t := by rw [List.getElem?_eq_getElem hml] at ht; exact Option.some.inj ht
  have hcrs : t.crs = goCrs t.tx (behindTo (R.tasks.map (·.tx)) R.taken) := by rw [← htm]; exact h.serial _ hml
  have hchk := h.chk t (htm ▸ List.getElem_mem hml)
  have he := h.fresh _ t ht (Nat.le_refl _)
  have hdid : (R.took n).dids.getD n 0 = 0 := by
    show (R.dids.set n 0).getD n 0 = 0
    rw [getD_set (by rw [h.dil]; exact hn), if_pos rfl]
  have hR := rel_take h hn h0 hlast (Mac.begin r.h)
  have e : (R.dstep n).2 = if (R.took n).dids.getD n 0 = t.crs.did.length then (R.took n).freed n R.taken else R.took n := by
    unfold RM.dstep
    rw [if_pos h0, if_pos hc, RM.didN_eq hml, htm, hdid]
    show (if t.crs.did.length = 0 then _ else _) = _
    by_cases hz : t.crs.did.length = 0
    · rw [if_pos hz, if_pos hz.symm]
    · rw [if_neg hz, if_neg (fun q => hz q.symm)]
  rw [e]
  refine rel_endD hR (List.getElem?_set_self hnl) ht hr he rfl hcn (by rw [hdid]; omega) ?_ hcrs ?_ ?_
  · rw [hdid]; intro i hi; omega
  · rw [hdid, hcrs]
    show 0 = _ ↔ ¬ 0 < t.tx.c.length
    have := did_zero t.tx (behindTo (R.tasks.map (·.tx)) R.taken)
    constructor
    · intro q; have := this.1 q.symm; omega
    · intro q; exact (this.2 (by omega)).symm
  · rw [hdid]
    exact macRel_zero _ _ _ (checkN_sound _ hchk).2.2.1

/-- A doer's instruction that is no Abort. -/
theorem rel_goD {M : SM} {R : RM} (h : Rel M R) {n m : Nat} (hn : n < R.doers) (H : InHand M R n m) (hw : R.waitN m (R.insN n m) = false) {r : PRec} (hr : M.recs[m]? = some r) (hcn : r.h.c.n = (R.tasks[m]'H.lt).tx.c.length) {mac' : Mac} (hh : mac'.h = r.h)
    (h11 : ((gst (R.tasks[m]'H.lt).tx (behindTo (R.tasks.map (·.tx)) m) (R.dids.getD n 0)).ins (R.tasks[m]'H.lt).tx).op ≠ 11)
    (hm : MacRel mac' (gst (R.tasks[m]'H.lt).tx (behindTo (R.tasks.map (·.tx)) m) (R.dids.getD n 0 + 1))) :
    Rel (SM.endD { M with dos := M.dos.set n ⟨m + 1, mac'⟩ } n m ⟨m + 1, mac'⟩ (R.tasks[m]'H.lt).tx) (R.dstep n).2 := by
  obtain ⟨x, _, hx, hxm, _⟩ := H.mac
  have hnl : n < M.dos.length := by rw [h.dos]; exact hn
  have hdl : n < R.dids.length := by rw [h.dil]; exact hn
  have hR := rel_turn h hx hxm mac' (R.dids.getD n 0 + 1)
  have hdid : (R.withDid n (R.dids.getD n 0 + 1)).dids.getD n 0 = R.dids.getD n 0 + 1 := by
    show (R.dids.set n _).getD n 0 = _
    rw [getD_set hdl, if_pos rfl]
  have hh0 : ¬ R.hand.getD n 0 = 0 := by rw [H.hand]; omega
  have em : R.hand.getD n 0 - 1 = m := by rw [H.hand]; omega
  have e : (R.dstep n).2 = if (R.withDid n (R.dids.getD n 0 + 1)).dids.getD n 0 = (R.tasks[m]'H.lt).crs.did.length then (R.withDid n (R.dids.getD n 0 + 1)).freed n m else R.withDid n (R.dids.getD n 0 + 1) := by
    unfold RM.dstep
    rw [if_neg hh0, em, if_neg (by rw [hw]; simp), RM.didN_eq H.lt, hdid]
  rw [e]
  obtain ⟨c1, c2, _, c4⟩ := did_cases (R.tasks[m]'H.lt).tx (behindTo (R.tasks.map (·.tx)) m) (k := R.dids.getD n 0) (by rw [← H.crs]; exact H.did)
  refine rel_endD hR (List.getElem?_set_self hnl) (List.getElem?_eq_getElem H.lt) hr H.ended hh hcn ?_ ?_ H.crs ?_ ?_
  · rw [hdid]; have := H.did; omega
  · rw [hdid]
    intro i hi
    by_cases q : i < R.dids.getD n 0
    · exact c2 i q
    · have : i = R.dids.getD n 0 := by omega
      subst this
      exact ⟨c1, h11⟩
  · rw [hdid]
    have := c4 h11
    rw [← H.crs] at this
    constructor
    · intro q; exact this.1 q.symm
    · intro q; exact (this.2 q).symm
  · rw [hdid]; exact hm

/-- A doer's Abort. -/
theorem rel_abD {M : SM} {R : RM} (h : Rel M R) {n m : Nat} (hn : n < R.doers) (H : InHand M R n m) (hw : R.waitN m (R.insN n m) = false) {x : SDo} (hx : M.dos[n]? = some x) (hxr : MacRel x.mac (gst (R.tasks[m]'H.lt).tx (behindTo (R.tasks.map (·.tx)) m) (R.dids.getD n 0))) {mac' : Mac}
    (h11 : ((gst (R.tasks[m]'H.lt).tx (behindTo (R.tasks.map (·.tx)) m) (R.dids.getD n 0)).ins (R.tasks[m]'H.lt).tx).op = 11) (hab : mac'.ab = true) (hreg : mac'.regs = x.mac.regs) :
    Rel (SM.endD { M with dos := M.dos.set n ⟨m + 1, mac'⟩ } n m ⟨m + 1, mac'⟩ (R.tasks[m]'H.lt).tx) (R.dstep n).2 := by
  have hnl : n < M.dos.length := by rw [h.dos]; exact hn
  have hxm : x.txn = m + 1 := by rw [h.hand n x hx]; exact H.hand
  have hR := rel_turn h hx hxm mac' (R.dids.getD n 0 + 1)
  have hh0 : ¬ R.hand.getD n 0 = 0 := by rw [H.hand]; omega
  have em : R.hand.getD n 0 - 1 = m := by rw [H.hand]; omega
  obtain ⟨c1, c2, c3, _⟩ := did_cases (R.tasks[m]'H.lt).tx (behindTo (R.tasks.map (·.tx)) m) (k := R.dids.getD n 0) (by rw [← H.crs]; exact H.did)
  have c3' := c3 h11
  rw [← H.crs] at c3'
  have e : (R.dstep n).2 = (R.withDid n (R.dids.getD n 0 + 1)).freed n m := by
    unfold RM.dstep
    rw [if_neg hh0, em, if_neg (by rw [hw]; simp), RM.didN_eq H.lt]
    show (if _ then _ else _) = _
    rw [if_pos c3'.symm]
  rw [e]
  exact rel_abortD hR (List.getElem?_set_self hnl) (List.getElem?_eq_getElem H.lt) H.crs c2 hxr c1 h11 hab hreg

theorem RM.dstep_go {R : RM} {n m : Nat} (hand : R.hand.getD n 0 = m + 1) (hw : R.waitN m (R.insN n m) = false) : (R.dstep n).1 = true := by
  unfold RM.dstep
  rw [if_neg (by omega), show R.hand.getD n 0 - 1 = m by omega, if_neg (by rw [hw]; simp)]
theorem RM.dstep_wait {R : RM} {n m : Nat} (hand : R.hand.getD n 0 = m + 1) (hw : R.waitN m (R.insN n m) = true) : R.dstep n = (false, R) := by
  unfold RM.dstep
  rw [if_neg (by omega), show R.hand.getD n 0 - 1 = m by omega, if_pos hw]

end Go.Proofs.YtlheloogmgmjnaaGreat

namespace Go.Proofs.YtlheloogmgmjnaaGreat
open Go.RowKit

set_option maxHeartbeats 1000000 in
theorem doerStep_free (M : SM) (w : World) (h : SAt w M) (n : Nat) (d : SDo) (hd : M.dos[n]? = some d) (g : Nat) (hg : M.doS.a = some ⟨g, 0, none⟩) (h0 : d.txn = 0) (Q : Ending → World → Prop)
    (hQ : Calls Tryz.prog 88 #[.pointer (some ⟨M.b, 0, none⟩), .pointer (some ⟨g, n * 30, none⟩)] w fun e w' => (∃ z, e = .returned (.bool z)) ∧ Q e w') :
    Calls Tryz.prog 51 #[.pointer (some ⟨M.b, 0, none⟩), .pointer (some ⟨g, n * 30, none⟩)] w Q := by
  obtain ⟨g', _, _, hg', _, hct, _⟩ := h.doer hd
  obtain rfl : g' = g := by rw [hg] at hg'; simpa using hg'.symm
  rw [h0] at hct
  have HQ := hide hQ
  clear h hd hg hg' hQ
  go_enter Tryz.func51, Tryz.ntmps51
  go_wp2_with fail
  refine HQ.out.mono ?_
  rintro e w1 ⟨⟨z, rfl⟩, hq⟩
  have H1 := hide hq
  clear hq HQ
  go_wp2
  exact H1.out

set_option maxHeartbeats 1000000 in
theorem doerStep_busy (M : SM) (w : World) (h : SAt w M) (n : Nat) (d : SDo) (hd : M.dos[n]? = some d) (g : Nat) (hg : M.doS.a = some ⟨g, 0, none⟩) (h0 : d.txn ≠ 0) (Q : Ending → World → Prop)
    (hQ : Calls Tryz.prog 89 #[.pointer (some ⟨M.b, 0, none⟩), .pointer (some ⟨g, n * 30, none⟩), .func (.func 90) #[] #[]] w fun e w' => (∃ z, e = .returned (.bool z)) ∧ Q e w') :
    Calls Tryz.prog 51 #[.pointer (some ⟨M.b, 0, none⟩), .pointer (some ⟨g, n * 30, none⟩)] w Q := by
  obtain ⟨g', _, _, hg', _, hct, _⟩ := h.doer hd
  obtain rfl : g' = g := by rw [hg] at hg'; simpa using hg'.symm
  have hne : ¬ (d.txn : Int) = 0 := by omega
  have HQ := hide hQ
  clear h hd hg hg' hQ
  generalize (d.txn : Int) = dt at *
  go_enter Tryz.func51, Tryz.ntmps51
  go_wp2_with fail
  refine HQ.out.mono ?_
  rintro e w1 ⟨⟨z, rfl⟩, hq⟩
  have H1 := hide hq
  clear hq HQ
  go_wp2
  exact H1.out

set_option maxHeartbeats 1000000 in
theorem pStep_off (M : SM) (w : World) (h : SAt w M) (i : Int) (hi : i < 0 ∨ (M.mks.length : Int) + M.dos.length < i) :
    Calls Tryz.prog 20 #[.pointer (some ⟨M.b, 0, none⟩), .int .i64 i] w fun e w' => e = .returned (.bool false) ∧ w' = w := by
  have c4 := h.row.cell' (i := 4) rfl
  have c5 := h.row.cell' (i := 5) rfl
  rw [h.mkn] at c4
  rw [h.don] at c5
  have m8 := h.mk8
  have d6 := h.do6
  have hwr : IntKind.i64.wrap ((M.mks.length : Int) + M.dos.length) = (M.mks.length : Int) + M.dos.length := by rw [IntKind.wrap_i64]; omega
  clear h
  generalize M.mks.length = A at *
  generalize M.dos.length = B at *
  rcases hi with hi | hi
  · go_enter Tryz.func20, Tryz.ntmps20
    go_wp2
    go_ret
    exact ⟨rfl, rfl⟩
  · have h1 : ¬ i < 0 := by omega
    have h2 : ¬ i < (A : Int) := by omega
    have h3 : ¬ i < (A : Int) + B := by omega
    have h4 : ¬ i = (A : Int) + B := by omega
    go_enter Tryz.func20, Tryz.ntmps20
    go_wp2
    go_ret
    exact ⟨rfl, rfl⟩

set_option maxHeartbeats 1000000 in
theorem pStep_maker (M : SM) (w : World) (h : SAt w M) (i : Nat) (hi : i < M.mks.length) (Q : Ending → World → Prop)
    (hQ : Calls Tryz.prog 50 #[.pointer (some ⟨M.b, 0, none⟩), .int .i64 i] w fun e w' => (∃ z, e = .returned (.bool z)) ∧ Q e w') :
    Calls Tryz.prog 20 #[.pointer (some ⟨M.b, 0, none⟩), .int .i64 i] w Q := by
  have c4 := h.row.cell' (i := 4) rfl
  have c5 := h.row.cell' (i := 5) rfl
  rw [h.mkn] at c4
  rw [h.don] at c5
  have m8 := h.mk8
  have d6 := h.do6
  have hwr : IntKind.i64.wrap ((M.mks.length : Int) + M.dos.length) = (M.mks.length : Int) + M.dos.length := by rw [IntKind.wrap_i64]; omega
  have HQ := hide hQ
  clear h hQ
  generalize M.mks.length = A at *
  generalize M.dos.length = B at *
  have h1 : ¬ (i : Int) < 0 := by omega
  have h2 : (i : Int) < (A : Int) := by omega
  go_enter Tryz.func20, Tryz.ntmps20
  go_wp2_with fail
  refine HQ.out.mono ?_
  rintro e w1 ⟨⟨z, rfl⟩, hq⟩
  have H1 := hide hq
  clear hq HQ
  go_wp2
  exact H1.out

set_option maxHeartbeats 1000000 in
theorem pStep_doer (M : SM) (w : World) (h : SAt w M) (d : Nat) (hd : d < M.dos.length) (g : Nat) (hg : M.doS.a = some ⟨g, 0, none⟩) (Q : Ending → World → Prop)
    (hQ : Calls Tryz.prog 51 #[.pointer (some ⟨M.b, 0, none⟩), .pointer (some ⟨g, d * 30, none⟩)] w fun e w' => (∃ z, e = .returned (.bool z)) ∧ Q e w') :
    Calls Tryz.prog 20 #[.pointer (some ⟨M.b, 0, none⟩), .int .i64 ((M.mks.length : Int) + d)] w Q := by
  have c4 := h.row.cell' (i := 4) rfl
  have c5 := h.row.cell' (i := 5) rfl
  rw [h.mkn] at c4
  rw [h.don, hg] at c5
  have m8 := h.mk8
  have d6 := h.do6
  have hwr : IntKind.i64.wrap ((M.mks.length : Int) + M.dos.length) = (M.mks.length : Int) + M.dos.length := by rw [IntKind.wrap_i64]; omega
  have HQ := hide hQ
  clear h hQ hg
  generalize M.mks.length = A at *
  generalize M.dos.length = B at *
  have h1 : ¬ (A : Int) + d < 0 := by omega
  have h2 : ¬ (A : Int) + d < (A : Int) := by omega
  have h3 : (A : Int) + d < (A : Int) + B := by omega
  have hws : IntKind.i64.wrap ((A : Int) + d - A) = (d : Int) := by rw [IntKind.wrap_i64]; omega
  have hdb : (d : Int) < (B : Int) := by omega
  go_enter Tryz.func20, Tryz.ntmps20
  go_wp2_with fail
  refine HQ.out.mono ?_
  rintro e w1 ⟨⟨z, rfl⟩, hq⟩
  have H1 := hide hq
  clear hq HQ
  go_wp2
  exact H1.out

end Go.Proofs.YtlheloogmgmjnaaGreat

namespace Go.Proofs.YtlheloogmgmjnaaGreat
open Go.RowKit

theorem SAt.tx_of {w : World} {M : SM} (h : SAt w M) {r : PRec} (hr : r ∈ M.recs) (he : r.ended = false) : ∃ t, OwnTx w r.h t ∧ checkN t = 0 ∧ ∀ k ∈ r.h.blks, k ∉ M.mut := by
  obtain ⟨i, hi, rfl⟩ := List.getElem_of_mem hr
  obtain ⟨h1, h2, h3⟩ := h.txn i M.recs[i] (M.txs[i]'(by rw [h.txl]; exact hi)) (List.getElem?_eq_getElem hi) (List.getElem?_eq_getElem _) he
  exact ⟨_, h1, h2, h3⟩
theorem SAt.foot_lt {w : World} {M : SM} (h : SAt w M) : ∀ k ∈ M.foot, k < w.heap.size := by
  intro k hk
  rcases SM.mem_foot.1 hk with hk | ⟨r, hr, he, hk⟩
  · exact h.mut_lt k hk
  · obtain ⟨t, ho, _⟩ := h.tx_of hr he
    exact ho.blk_lt k hk
theorem SAt.chgF {w w' : World} {D : Nat → Prop} {M : SM} (h : SAt w M) (hc : Chg w w' D) (hd : ∀ k ∈ M.foot, ¬ D k) : SAt w' M :=
  h.chg hc (fun k hk => hd k (SM.mem_foot.2 (Or.inl hk))) (fun r hr he k hk => hd k (SM.mem_foot.2 (Or.inr ⟨r, hr, he, hk⟩)))

/-- Both stores lie in memory, apart, made behind w0; x: the pair. -/
structure TwoS (w0 w : World) (x : Nat) (M : SM) (R : RM) : Prop where
  pair : RowAt w x 29 [.pointer (some ⟨M.b, 0, none⟩), .pointer (some ⟨R.b, 0, none⟩)]
  p : SAt w M
  r : RefAt w R
  apart : ∀ k ∈ M.foot, k ∉ R.foot
  xm : x ∉ M.foot
  xr : x ∉ R.foot
  m0 : ∀ k ∈ M.foot, w0.heap.size ≤ k
  r0 : ∀ k ∈ R.foot, w0.heap.size ≤ k
  x0 : w0.heap.size ≤ x
  below : Below w0.heap.size w0 w

/-- Only other memory has turned. -/
theorem TwoS.chg {w0 w w' : World} {x : Nat} {M : SM} {R : RM} (h : TwoS w0 w x M R) {D : Nat → Prop} (hc : Chg w w' D) (hD : ∀ k, D k → w0.heap.size ≤ k ∧ k ≠ x ∧ k ∉ M.foot ∧ k ∉ R.foot) : TwoS w0 w' x M R := by
  have hs := h.below.size
  exact { h with
    pair := h.pair.chg hc (fun hd => (hD x hd).2.1 rfl)
    p := h.p.chgF hc (fun k hk hd => (hD k hd).2.2.1 hk)
    r := h.r.chg hc (fun k hk hd => (hD k hd).2.2.2 (by simp [RM.foot, hk])) (fun k hk hd => (hD k hd).2.2.2 (by simp [RM.foot, hk]))
    below := h.below.trans (hc.belowB (fun k hk => (hD k hk).1) hs) }

theorem TwoS.on {w0 w w' : World} {x : Nat} {M : SM} {R : RM} (h : TwoS w0 w x M R) (hb : Below w.heap.size w w') : TwoS w0 w' x M R := h.chg (Chg.of_below hb (fun _ => False)) (fun _ hk => hk.elim)

/-- New blocks are none of theirs. -/
theorem TwoS.far {w0 w : World} {x : Nat} {M : SM} {R : RM} (h : TwoS w0 w x M R) {k : Nat} (hk : w.heap.size ≤ k) : w0.heap.size ≤ k ∧ k ≠ x ∧ k ∉ M.foot ∧ k ∉ R.foot :=
  ⟨Nat.le_trans h.below.size hk, by have := h.pair.lt; omega, fun hm => by have := h.p.foot_lt k hm; omega, fun hr => by have := h.r.foot_lt k hr; omega⟩

/-- The program's store has turned. -/
theorem TwoS.prog {w0 w w' : World} {x : Nat} {M M' : SM} {R : RM} (h : TwoS w0 w x M R) (hp : SAt w' M') (hb : M'.b = M.b) (hc : Chg w w' (fun k => k ∈ M.mut)) (hf : ∀ k ∈ M'.foot, k ∈ M.foot ∨ w.heap.size ≤ k) : TwoS w0 w' x M' R := by
  have hs := h.below.size
  have hmf : ∀ k ∈ M.mut, k ∈ M.foot := fun k hk => by simp [SM.foot, hk]
  refine ⟨by rw [hb]; exact h.pair.chg hc (fun hk => h.xm (hmf _ hk)), hp, h.r.chg hc (fun k hk hd => h.apart k (hmf k hd) (by simp [RM.foot, hk])) (fun k hk hd => h.apart k (hmf k hd) (by simp [RM.foot, hk])), ?_, ?_, h.xr, ?_, h.r0, h.x0, h.below.trans (hc.belowB (fun k hk => h.m0 k (hmf k hk)) hs)⟩
  · intro k hk hr
    rcases hf k hk with h1 | h1
    · exact h.apart k h1 hr
    · have := h.r.foot_lt k hr; omega
  · intro hk
    rcases hf x hk with h1 | h1
    · exact h.xm h1
    · have := h.pair.lt; omega
  · intro k hk
    rcases hf k hk with h1 | h1
    · exact h.m0 k h1
    · omega

/-- The document's store has turned. -/
theorem TwoS.ref {w0 w w' : World} {x : Nat} {M : SM} {R R' : RM} (h : TwoS w0 w x M R) (hr : RefAt w' R') (hb : R'.b = R.b) (hc : Chg w w' (fun k => k ∈ R.mut)) (hf : ∀ k ∈ R'.foot, k ∈ R.foot ∨ w.heap.size ≤ k) : TwoS w0 w' x M R' := by
  have hs := h.below.size
  have hmf : ∀ k ∈ R.mut, k ∈ R.foot := fun k hk => by simp [RM.foot, hk]
  refine ⟨by rw [hb]; exact h.pair.chg hc (fun hk => h.xr (hmf _ hk)), h.p.chgF hc (fun k hk hd => h.apart k hk (hmf k hd)), hr, ?_, h.xm, ?_, h.m0, ?_, h.x0, h.below.trans (hc.belowB (fun k hk => h.r0 k (hmf k hk)) hs)⟩
  · intro k hk hr'
    rcases hf k hr' with h1 | h1
    · exact h.apart k hk h1
    · have := h.p.foot_lt k hk; omega
  · intro hk
    rcases hf x hk with h1 | h1
    · exact h.xr h1
    · have := h.pair.lt; omega
  · intro k hk
    rcases hf k hk with h1 | h1
    · exact h.r0 k h1
    · omega

end Go.Proofs.YtlheloogmgmjnaaGreat

namespace Go.Proofs.YtlheloogmgmjnaaGreat
open Go.RowKit

theorem foot_endD (M : SM) (n m : Nat) (d : SDo) (t : Tx) : ∀ k ∈ (M.endD n m d t).foot, k ∈ M.foot := by
  unfold SM.endD
  split
  · intro k hk
    refine SM.mem_foot.2 ?_
    rcases SM.mem_foot.1 hk with h1 | ⟨r, hr, he, h1⟩
    · exact Or.inl h1
    · have hr' : r ∈ M.recs.set m (PRec.endAs d.mac.ab (d.mac.regs.getD 0 0)) := hr
      rcases List.mem_or_eq_of_mem_set hr' with h2 | h2
      · exact Or.inr ⟨r, h2, he, h1⟩
      · rw [h2] at he; cases he
  · exact fun k hk => hk
theorem foot_endD2 {M M' : SM} {n m : Nat} {d : SDo} {t : Tx} {k : Nat} (hk : k ∈ (M'.endD n m d t).foot) (hf : M'.foot = M.foot) : k ∈ M.foot := hf ▸ foot_endD M' n m d t k hk
theorem endD_b (M : SM) (n m : Nat) (d : SDo) (t : Tx) : (M.endD n m d t).b = M.b := by
  unfold SM.endD
  split <;> rfl

theorem mdo_abort (m : Mac) (x : Ins) (h : x.op = 11) : mdo m x = { m with ab := true } := by
  unfold mdo
  rw [if_neg (by omega), if_neg (by omega), if_neg (by omega), if_pos h]

theorem versL_sorted (l : List Tsk) (key : Int) : ∀ n, VSorted (versL l key n)
  | 0 => List.Pairwise.nil
  | n + 1 => by
    unfold VSorted
    rw [versL, List.pairwise_append]
    refine ⟨versL_sorted l key n, ?_, ?_⟩
    · unfold tailV
      split
      · exact List.Pairwise.nil
      · split
        · exact List.pairwise_singleton _ _
        · exact List.Pairwise.nil
    · intro a ha b hb
      have h1 := (versL_txn l key n a ha).2
      unfold tailV at hb
      split at hb
      · simp at hb
      · split at hb
        · rw [List.mem_singleton.1 hb, verOf_txn]; omega
        · simp at hb
theorem Rel.sorted {M : SM} {R : RM} {X : Nat → Prop} (h : Rel M R X) (k : Nat) : VSorted (M.vs k) := by
  rw [h.vs k]; exact versL_sorted _ _ _
theorem Rel.dealt_le {M : SM} {R : RM} {X : Nat → Prop} (h : Rel M R X) (hl : R.tasks.length ≤ 150) : ∀ m ∈ M.mks, m.dealt ≤ 1000 := by
  intro m hm
  have h1 : m.dealt ∈ R.dealt := by rw [← h.dealt]; exact List.mem_map.2 ⟨m, hm, rfl⟩
  have h2 := h.dealtle _ h1
  have h3 := h.closedle
  omega
/-- What a look finds. -/
theorem Rel.look {M : SM} {R : RM} {X : Nat → Prop} (h : Rel M R X) {kn m : Nat} (hk : kn < 24) (hm : m < R.taken) (hml : m < R.tasks.length) :
    (waitsIn R.tasks (kn : Int) m = true → (behindV (M.vs kn) m (M.vs kn).length).2.2 = false) ∧
    (waitsIn R.tasks (kn : Int) m = false → behindV (M.vs kn) m (M.vs kn).length = (((behindTo (R.tasks.map (·.tx)) m).getD kn Slot.none).v, ((behindTo (R.tasks.map (·.tx)) m).getD kn Slot.none).th, true)) := by
  have hd := h.taken_dealt _ (h.dealt_get kn)
  rw [h.vs kn, behindV_cut R.tasks kn m _ (by omega)]
  have := behindV_value R.tasks kn h.gone (m : Int) m (by omega) (by omega)
  rw [behindTo_value R.tasks h.serial h.chk kn hk m (by omega)]
  exact this

/-- The program's doer's step, against the document's. -/
theorem sdoer_any (M : SM) (R : RM) (ha : Rel M R) (w : World) (h : SAt w M) (hl : R.tasks.length ≤ 150) (n : Nat) (hn : n < R.doers) (g : Nat) (hg : M.doS.a = some ⟨g, 0, none⟩) :
    Calls Tryz.prog 51 #[.pointer (some ⟨M.b, 0, none⟩), .pointer (some ⟨g, n * 30, none⟩)] w fun e w' => ∃ M', e = .returned (.bool (R.dstep n).1) ∧ SAt w' M' ∧ M'.b = M.b ∧ Rel M' (R.dstep n).2 ∧ Chg w w' (fun k => k ∈ M.mut) ∧ (∀ k ∈ M'.foot, k ∈ M.foot ∨ w.heap.size ≤ k) := by
  have hnl : n < M.dos.length := by rw [ha.dos]; exact hn
  have hx := List.getElem?_eq_getElem hnl
  have htx := ha.hand n _ hx
  have hvl : ∀ k, (M.vs k).length ≤ 500 := fun k => by have := ha.vs_le hl k; omega
  have hdl := ha.dealt_le hl
  by_cases h0 : R.hand.getD n 0 = 0
  · refine doerStep_free M w h n _ hx g hg (htx.trans h0) _ ?_
    by_cases hc : R.ready ≠ 0 ∧ R.taken < R.ends.getD (R.ready - 1) 0
    · have hlt : R.taken < R.tasks.length := by
        have h1 := ha.last
        rw [if_neg hc.1] at h1
        have h2 := ha.last_lt
        omega
      have hrl : R.taken < M.recs.length := by rw [ha.txns]; exact hlt
      have hr := List.getElem?_eq_getElem hrl
      have ht : M.txs[R.taken]? = some (R.tasks[R.taken]).tx := by rw [ha.txs, List.getElem?_map, List.getElem?_eq_getElem hlt]; rfl
      obtain ⟨t', ht', he', _⟩ := ha.recs _ _ hr
      rw [List.getElem?_eq_getElem hlt] at ht'
      obtain rfl := Option.some.inj ht'
      have hen : (M.recs[R.taken]).ended = false := by rw [he']; exact ha.fresh _ _ (List.getElem?_eq_getElem hlt) (Nat.le_refl _)
      have hcn := (h.txn _ _ _ hr ht hen).1.cn
      refine (take_yes M w h n _ hx g hg hdl (ha.canTake.1 hc) R.taken ha.took _ _ hr ht hen hvl).mono ?_
      rintro e w' ⟨rfl, hS, hC⟩
      have e1 : (R.dstep n).1 = true := by
        unfold RM.dstep
        rw [if_pos h0, if_pos hc]
      refine ⟨⟨true, rfl⟩, _, by rw [e1], hS, endD_b _ _ _ _ _, rel_takeD ha hn h0 hc hr (List.getElem?_eq_getElem hlt) hcn, hC, fun k hk => Or.inl ?_⟩
      exact foot_endD2 hk rfl
    · refine (take_no M w h _ hdl ?_).mono ?_
      · by_cases q : M.took = M.last
        · exact q
        · exact absurd (ha.canTake.2 q) hc
      · rintro e w' ⟨rfl, hb⟩
        have e1 : R.dstep n = (false, R) := by
          unfold RM.dstep
          rw [if_pos h0, if_neg hc]
        rw [e1]
        exact ⟨⟨false, rfl⟩, M, rfl, h.below hb, rfl, ha, Chg.of_below hb _, fun k hk => Or.inl hk⟩
  · obtain ⟨m, hm⟩ : ∃ m, R.hand.getD n 0 = m + 1 := ⟨R.hand.getD n 0 - 1, by omega⟩
    have H := ha.inHand hn hm
    obtain ⟨x, r, hx', hxm, hr, hren, hh, hmr⟩ := H.mac
    rw [hx] at hx'
    obtain rfl := Option.some.inj hx'
    have hmt : m < R.taken := by have := ha.handle n hn; omega
    have ht : M.txs[m]? = some (R.tasks[m]'H.lt).tx := by rw [ha.txs, List.getElem?_map, List.getElem?_eq_getElem H.lt]; rfl
    have hcn := (h.txn _ _ _ hr ht hren).1.cn
    have hck := ha.chk _ (List.getElem_mem H.lt)
    have hins : R.insN n m = (R.tasks[m]'H.lt).tx.c.getD (M.dos[n]).mac.next Ins.zero := by rw [RM.insN_eq H.lt, H.pc, hmr.next]
    have hgi : (gst (R.tasks[m]'H.lt).tx (behindTo (R.tasks.map (·.tx)) m) (R.dids.getD n 0)).ins (R.tasks[m]'H.lt).tx = (R.tasks[m]'H.lt).tx.c.getD (M.dos[n]).mac.next Ins.zero := by
      unfold GSt.ins
      rw [hmr.next]
    have hpc : (M.dos[n]).mac.next < (R.tasks[m]'H.lt).tx.c.length := by rw [hmr.next]; exact H.pclt
    have hsnd := checkN_ins hck hpc
    refine doerStep_busy M w h n _ hx g hg (by rw [hxm]; omega) _ ?_
    obtain ⟨gl1, gl2, gl3⟩ := gst_len (R.tasks[m]'H.lt).tx (behindTo (R.tasks.map (·.tx)) m) (R.dids.getD n 0)
    by_cases h67 : ((R.tasks[m]'H.lt).tx.c.getD (M.dos[n]).mac.next Ins.zero).op = 6 ∨ ((R.tasks[m]'H.lt).tx.c.getD (M.dos[n]).mac.next Ins.zero).op = 7
    · obtain ⟨_, _, _, _, _, hL, _, _⟩ := soundB_cases hsnd
      obtain ⟨hb0, hbl⟩ := hL h67
      have hmem : (R.tasks[m]'H.lt).tx.r.getD ((R.tasks[m]'H.lt).tx.c.getD (M.dos[n]).mac.next Ins.zero).b.toNat 0 ∈ (R.tasks[m]'H.lt).tx.r := by
        rw [List.getD, List.getElem?_eq_getElem (by omega)]
        exact List.getElem_mem _
      obtain ⟨k0, k24⟩ := (checkN_sound _ hck).2.2.2.1 _ hmem
      obtain ⟨kn, hkn⟩ : ∃ kn : Nat, (R.tasks[m]'H.lt).tx.r.getD ((R.tasks[m]'H.lt).tx.c.getD (M.dos[n]).mac.next Ins.zero).b.toNat 0 = (kn : Int) := ⟨_, (Int.toNat_of_nonneg k0).symm⟩
      have hk24 : kn < 24 := by omega
      have hwn : R.waitN m (R.insN n m) = waitsIn R.tasks (kn : Int) m := by
        unfold RM.waitN
        rw [hins, if_pos h67, List.getElem?_eq_getElem H.lt]
        show waitsIn R.tasks ((R.tasks[m]'H.lt).tx.r.getD _ 0) m = _
        rw [hkn]
      obtain ⟨L1, L2⟩ := ha.look hk24 hmt H.lt
      refine (advance_look M w h n m _ hx g hg hxm r _ hr ht hren hvl hh hpc h67 kn hkn hk24 (ha.sorted kn) (behindV (M.vs kn) m (M.vs kn).length).1 (behindV (M.vs kn) m (M.vs kn).length).2.1 (behindV (M.vs kn) m (M.vs kn).length).2.2 rfl _ rfl).mono ?_
      rintro e w' ⟨rfl, q1, q2⟩
      refine ⟨⟨_, rfl⟩, ?_⟩
      cases hw : waitsIn R.tasks (kn : Int) m with
      | true =>
        have hb := q1 (L1 hw)
        rw [RM.dstep_wait hm (by rw [hwn]; exact hw)]
        exact ⟨M, by rw [L1 hw], h.below hb, rfl, ha, Chg.of_below hb _, fun k hk => Or.inl hk⟩
      | false =>
        have L2' := L2 hw
        obtain ⟨hS, hC⟩ := q2 (by rw [L2'])
        refine ⟨_, by rw [RM.dstep_go hm (by rw [hwn]; exact hw), L2'], hS, endD_b _ _ _ _ _, ?_, hC, fun k hk => Or.inl (foot_endD2 hk rfl)⟩
        refine rel_goD ha hn H (by rw [hwn]; exact hw) hr hcn hh ?_ ?_
        · rw [hgi]; omega
        · rw [L2']
          have := macRel_look (hv := behindTo (R.tasks.map (·.tx)) m) hmr (by rw [hgi]; exact h67)
          rw [hgi, hkn, Int.toNat_natCast] at this
          exact this
    · have hwn : R.waitN m (R.insN n m) = false := by
        unfold RM.waitN
        rw [hins, if_neg h67]
      refine (advance_do M w h n m _ hx g hg hxm r _ hr ht hren hvl hh hpc h67 _ rfl).mono ?_
      rintro e w' ⟨rfl, hS, hC⟩
      refine ⟨⟨true, rfl⟩, _, by rw [RM.dstep_go hm hwn], hS, endD_b _ _ _ _ _, ?_, hC, fun k hk => Or.inl (foot_endD2 hk rfl)⟩
      by_cases h11 : ((R.tasks[m]'H.lt).tx.c.getD (M.dos[n]).mac.next Ins.zero).op = 11
      · refine rel_abD ha hn H hwn hx hmr (by rw [hgi]; exact h11) ?_ ?_
        · show (mdo _ _).ab = true
          rw [mdo_abort _ _ h11]
        · show (mdo _ _).regs = _
          rw [mdo_abort _ _ h11]
      · refine rel_goD ha hn H hwn hr hcn (by show (mdo _ _).h = _; rw [mdo_h]; exact hh) (by rw [hgi]; exact h11) ?_
        have := macRel_do (hv := behindTo (R.tasks.map (·.tx)) m) hmr (by rw [hgi]; exact hsnd) (by rw [hgi]; exact h67) (by rw [hgi]; exact h11) gl3 gl2 (h.dr _ (List.getElem_mem hnl)).2 (checkN_sound _ hck).2.2.1
        rw [hgi] at this
        exact this

theorem Rel.doS {w : World} {M : SM} {R : RM} {X : Nat → Prop} (_ : Rel M R X) (h : SAt w M) : ∃ g, M.doS.a = some ⟨g, 0, none⟩ := by
  obtain ⟨g, _, _, hg, _⟩ := h.doer (List.getElem?_eq_getElem (show 0 < M.dos.length from h.do1))
  exact ⟨g, hg⟩

/-- The program's Step, against the document's. -/
theorem sStep_any (M : SM) (R : RM) (ha : Rel M R) (w : World) (h : SAt w M) (hl : R.tasks.length ≤ 150) (i : Int) (hi : i ≠ (R.parts : Int) + R.doers) :
    Calls Tryz.prog 20 #[.pointer (some ⟨M.b, 0, none⟩), .int .i64 i] w fun e w' => ∃ M', e = .returned (.bool (R.step i).1) ∧ SAt w' M' ∧ M'.b = M.b ∧ Rel M' (R.step i).2 ∧ Chg w w' (fun k => k ∈ M.mut) ∧ (∀ k ∈ M'.foot, k ∈ M.foot ∨ w.heap.size ≤ k) := by
  have hmk := ha.mks
  have hdo := ha.dos
  by_cases h1 : i < 0 ∨ (R.parts : Int) + R.doers < i
  · refine (pStep_off M w h i (by rw [hmk, hdo]; exact h1)).mono ?_
    rintro e w' ⟨rfl, rfl⟩
    unfold RM.step
    rw [if_pos h1]
    exact ⟨M, rfl, h, rfl, ha, Chg.refl _ _, fun k hk => Or.inl hk⟩
  · by_cases h2 : i < R.parts
    · obtain ⟨n, rfl⟩ : ∃ n : Nat, i = n := ⟨i.toNat, by omega⟩
      have hn : n < M.mks.length := by omega
      have hm := List.getElem?_eq_getElem hn
      have hgd : R.dealt.getD n 0 = (M.mks[n]).dealt := by rw [← ha.dealt, List.getD, List.getElem?_map, hm]; rfl
      have hle : (M.mks[n]).dealt ≤ R.closed := ha.dealtle _ (by rw [← ha.dealt]; exact List.mem_map.2 ⟨_, List.getElem_mem hn, rfl⟩)
      refine pStep_maker M w h n hn _ ?_
      by_cases hz : R.dealt.getD n 0 < R.closed
      · have hz' : (M.mks[n]).dealt < R.closed := by rw [← hgd]; exact hz
        have hlt : (M.mks[n]).dealt < R.tasks.length := by have := ha.closedle; omega
        have hrl : (M.mks[n]).dealt < M.recs.length := by rw [ha.txns]; exact hlt
        have hr := List.getElem?_eq_getElem hrl
        have ht : M.txs[(M.mks[n]).dealt]? = some (R.tasks[(M.mks[n]).dealt]).tx := by rw [ha.txs, List.getElem?_map, List.getElem?_eq_getElem hlt]; rfl
        obtain ⟨t', ht', he', _⟩ := ha.recs _ _ hr
        rw [List.getElem?_eq_getElem hlt] at ht'
        obtain rfl := Option.some.inj ht'
        have hdd : (M.mks[n]).dealt ∈ R.dealt := by rw [← ha.dealt]; exact List.mem_map.2 ⟨_, List.getElem_mem hn, rfl⟩
        have hen : (M.recs[(M.mks[n]).dealt]).ended = false := by rw [he']; exact ha.fresh _ _ (List.getElem?_eq_getElem hlt) (ha.taken_dealt _ hdd)
        refine (makerStep_yes M w h n _ hm (by rw [ha.closed]; exact hz') hrl _ _ hr ht hen (fun k => by have := ha.vs_le hl k; omega)).mono ?_
        rintro e w' ⟨rfl, vS, hS, hC, hF⟩
        unfold RM.step
        rw [if_neg h1, if_pos h2, Int.toNat_natCast, if_pos hz, hgd]
        exact ⟨⟨true, rfl⟩, _, rfl, hS, rfl, rel_maker ha hm hz' ht vS, hC, hF⟩
      · refine (makerStep_no M w h n _ hm (by rw [ha.closed]; omega)).mono ?_
        rintro e w' ⟨rfl, hb⟩
        unfold RM.step
        rw [if_neg h1, if_pos h2, Int.toNat_natCast, if_neg hz]
        exact ⟨⟨false, rfl⟩, M, rfl, h.below hb, rfl, ha, Chg.of_below hb _, fun k hk => Or.inl hk⟩
    · obtain ⟨d, hd⟩ : ∃ d : Nat, i = (R.parts : Int) + d := ⟨(i - R.parts).toNat, by omega⟩
      subst hd
      have hdl : d < R.doers := by omega
      obtain ⟨g, hg⟩ := ha.doS h
      have := pStep_doer M w h d (by omega) g hg (fun e w' => ∃ M', e = .returned (.bool (R.dstep d).1) ∧ SAt w' M' ∧ M'.b = M.b ∧ Rel M' (R.dstep d).2 ∧ Chg w w' (fun k => k ∈ M.mut) ∧ (∀ k ∈ M'.foot, k ∈ M.foot ∨ w.heap.size ≤ k)) (by
        refine (sdoer_any M R ha w h hl d hdl g hg).mono ?_
        rintro e w' ⟨M', rfl, q⟩
        exact ⟨⟨_, rfl⟩, M', rfl, q⟩)
      rw [hmk] at this
      refine this.mono ?_
      rintro e w' q
      unfold RM.step
      rw [if_neg h1, if_neg h2, show ((R.parts : Int) + d - R.parts).toNat = d by omega]
      exact q

end Go.Proofs.YtlheloogmgmjnaaGreat
