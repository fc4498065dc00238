import Derived.Test.YtlheloogmgmjnaaT26
import Derived.Test.YtlheloogmgmjnaaT23
import Derived.Test.YtlheloogmgmjnaaT14
import Derived.Test.YtlheloogmgmjnaaT07
import Derived.Test.YtlheloogmgmjnaaT29
import Derived.Test.YtlheloogmgmjnaaT13
import Derived.Test.YtlheloogmgmjnaaT18
namespace Go.Proofs.Ytlheloogmgmjnaa
open Go.RowKit

/-- The store of a struct into the middle of a block, in a region that does not draw its order. -/
theorem wpList_store_mid {P : Program} {w : World} {ops : Array Oper} {rest : List Oper} {o : Oper} {a : Act} {Q : Exit → Act → World → Prop}
    (hg : o.guard = none) (ty : TypeId) (x y : Operand) (ho : o.op = .store ty x y)
    (g off : Nat) (hx : a.eval x = .pointer (some ⟨g, off, none⟩)) (cs cur : List Value) (t : TypeId) (hgr : RowAt w g t cur) (hy : (a.eval y).cells = cs.toArray) (hl : off + cs.length ≤ cur.length)
    (hi : (P.info? ty).map (·.size) = some cs.length) (h1 : ∀ v ∈ cs, v.oneCell' = true)
    (hK : ∀ w', RowAt w' g t (spl cur off cs) → Chg w w' (· = g) → w'.heap.size = w.heap.size → wpList P ops Q rest (a.put o.dst undef) w') :
    wpList P ops Q (o :: rest) a w := by
  refine wpList_plain hg fun K' hK' => ?_
  exact wp_store_mid ty x y ho g off hx cs cur t hgr hy hl hi h1 (fun w' r1 r2 r3 => hK' _ _ (hK w' r1 r2 r3))

def SM.settled (M : SM) (txn : Nat) (ws : List Int) (sd : Nat → Say) (j : Nat) : SM := { M with vs := settleTo M.vs txn ws sd j }
theorem settleTo_length (vs : Nat → List Ver) (txn : Nat) (ws : List Int) (sd : Nat → Say) (k : Nat) : ∀ j, (settleTo vs txn ws sd j k).length = (vs k).length
  | 0 => rfl
  | j + 1 => by
    have := settleTo_length vs txn ws sd k j
    rw [settleTo_succ]
    split
    · split <;> simpa [settleV] using this
    · exact this
theorem settled_succ (M : SM) (txn : Nat) (ws : List Int) (sd : Nat → Say) (j kn : Nat) (hk : ws.getD j 0 = (kn : Int)) : M.settled txn ws sd (j + 1) =
    { (M.settled txn ws sd j) with vs := fun k => if k = kn then (if (sd j).said then settleV ((M.settled txn ws sd j).vs kn) txn 2 (sd j).v (sd j).th else settleV ((M.settled txn ws sd j).vs kn) txn 1 0 false) else (M.settled txn ws sd j).vs k } := by
  have : settleTo M.vs txn ws sd (j + 1) = fun k => if k = kn then (if (sd j).said then settleV (settleTo M.vs txn ws sd j kn) txn 2 (sd j).v (sd j).th else settleV (settleTo M.vs txn ws sd j kn) txn 1 0 false) else settleTo M.vs txn ws sd j k := by
    funext k
    rw [settleTo_succ, hk]
    by_cases e : k = kn
    · subst e; simp
    · have : ¬ (k : Int) = (kn : Int) := by omega
      rw [if_neg this, if_neg e]
  unfold SM.settled
  rw [this]

theorem doRow_oneCell (d : SDo) : ∀ v ∈ d.row, v.oneCell' = true := by
  intro v hv
  simp only [SDo.row, Mac.row, List.mem_cons, List.mem_append, ints, sayCells, List.mem_map, List.mem_flatMap, Say.row, List.not_mem_nil, or_false] at hv
  rcases hv with h | h | h | h | h | ⟨_, _, h⟩ | ⟨_, _, h | h | h⟩ | h <;> subst h <;> rfl
theorem doer_info2 : ∃ (i : TypeInfo), Try.prog.info? 76 = some i ∧ i.zero = some (.agg (SDo.row ⟨0, Mac.zero⟩).toArray) ∧ i.size = 30 ∧ i.bytes ≤ 1000 := by
  have h : ((Try.prog.info? 76).map (fun i => (i.zero, i.size, decide (i.bytes ≤ 1000)))) = some (some (.agg (SDo.row ⟨0, Mac.zero⟩).toArray), 30, true) := by kernel_rfl
  cases hq : Try.prog.info? 76 with
  | none => rw [hq] at h; cases h
  | some i =>
    rw [hq] at h
    simp only [Option.map_some, Option.some.injEq, Prod.mk.injEq, decide_eq_true_eq] at h
    exact ⟨i, rfl, h.1, h.2.1, h.2.2⟩
theorem doZero_row : (SDo.row ⟨0, Mac.zero⟩).length = 30 := rfl
theorem spl_mid {pre row cs suf : List Value} {off : Nat} (h : off = pre.length) (hl : cs.length = row.length) : spl (pre ++ (row ++ suf)) off cs = pre ++ (cs ++ suf) := by
  subst h
  unfold spl
  rw [List.take_left', List.drop_append, List.drop_eq_nil_of_le (by omega), Nat.add_sub_cancel_left, hl, List.drop_left']
  · simp
  · rfl
  · rfl
theorem Try.size76 : (Try.prog.info? 76).map (·.size) = some 30 := by kernel_rfl

set_option maxHeartbeats 8000000 in
set_option maxRecDepth 100000 in
theorem endIfDone_yes (M : SM) (w : World) (h : SAt w M) (n m : Nat) (d : SDo) (hd : M.dos[n]? = some d) (g : Nat) (hg : M.doS.a = some ⟨g, 0, none⟩) (he : (d.mac.ab || decide (d.mac.h.c.n ≤ d.mac.next)) = true)
    (hm : d.txn = m + 1) (r : PRec) (t : Tx) (hr : M.recs[m]? = some r) (ht : M.txs[m]? = some t) (hen : r.ended = false) (hvl : ∀ k, (M.vs k).length ≤ 500) :
    Calls Try.prog 75 #[.pointer (some ⟨M.b, 0, none⟩), .pointer (some ⟨g, n * 30, none⟩)] w fun e w' => e = .returned (.tuple #[]) ∧
      SAt w' (M.freed n m t.w d.mac.said d.mac.ab (d.mac.regs.getD 0 0)) ∧ Chg w w' (fun k => k ∈ M.mut) := by
  have hml : m < M.recs.length := by
    by_cases hb : m < M.recs.length
    · exact hb
    · rw [List.getElem?_eq_none (by omega)] at hr; cases hr
  have htx := h.txns
  have HDR := hide (h.dr d (List.mem_of_getElem? hd))
  generalize hout : d.mac.regs.getD 0 0 = out
  have HOUT := hide hout
  clear hout
  have DO : Hid (∀ wx M', SAt wx M' → M'.dos = M.dos → M'.doS = M.doS → ∃ pre suf, pre.length = n * 30 ∧ wx.cell? ⟨g, n * 30, none⟩ = some (.int .i64 ((m : Int) + 1)) ∧ RowAt wx g 76 (pre ++ (d.row ++ suf)) ∧ MacAt wx g 76 (pre ++ [.int .i64 d.txn]) suf d.mac ∧
      ∀ (w' : World) (d' : SDo), d'.mac.regs.length = 6 ∧ d'.mac.says.length = 6 → RowAt w' g 76 (pre ++ (d'.row ++ suf)) → Chg wx w' (· = g) → SAt w' { M' with dos := M'.dos.set n d' }) := hide (by
    intro wx M' hM e1 e2
    obtain ⟨g', pre, suf, hg', hpl, hct, hrow, hmac, _, back⟩ := hM.doer (n := n) (d := d) (by rw [e1]; exact hd)
    obtain rfl : g' = g := by rw [e2, hg] at hg'; simpa using hg'.symm
    rw [hm] at hct
    exact ⟨pre, suf, hpl, by simpa using hct, hrow, hmac, back⟩)
  have hgm : g ∈ M.mut := SM.mem_mut.2 (Or.inl (by simp only [SM.base, List.mem_cons, List.mem_append]; exact Or.inr (Or.inr (Or.inr (Or.inr (Or.inl (by simp [Sl.blk, hg])))))))
  obtain ⟨pre0, suf0, hpl0, hct0, _, hmac0, _⟩ := DO.out w M h rfl rfl
  have ME := hide (mEnded_any g 76 (pre0 ++ [.int .i64 d.txn]) suf0 d.mac w hmac0)
  have e1 : (pre0 ++ [Value.int .i64 d.txn]).length = n * 30 + 1 := by simp [hpl0]
  rw [he, e1] at ME
  have H := hide h
  have hOT := h.txn m r t hr ht hen
  have HWN := hide hOT.1.wn
  have HCK := hide (show checkN t = 0 from hOT.2.1)
  have hw6 := (checkN_sound t hOT.2.1).2.2.1
  clear h hg hmac0 e1 hOT
  go_enter Try.func75, Try.ntmps75
  go_wp2_with (go_at_call 89; refine ME.out.mono ?_; rintro e w' ⟨rfl, k0, rfl⟩)
  have H1 := hide (H.out.below (below_drewN (Below.refl _ _) k0))
  have C1 := hide (Chg.of_below (below_drewN (Below.refl w.heap.size w) k0) (fun k => k ∈ M.mut))
  clear hct0 hpl0 ME H
  generalize w.drewN k0 = w1 at *
  refine wp_region_U (L := #[true, true, true, true, true, true, true, true, true, true, true]) (S := (fun wz => Below w1.heap.size w1 wz)) (by kernel_rfl) (Below.refl _ _).drew ?_
  refine wpU_takeC (i := 0) (v := ?_) rfl (by kernel_rfl) (by kernel_rfl) (by kernel_rfl) (by kernel_rfl) (by kernel_rfl) (fun _ _ _ h => h) (by rfl) ?_ ?_
  rotate_left
  · intro wx hS; refine lands_value ?_ hS; go_simp <;> with_reducible rfl
  try simp only [List.getElem_toArray, List.getElem_cons_zero, Act.put, List.setIfInBounds_toArray, List.set_cons_zero, List.set_cons_succ]
  refine wpU_takeC (i := 1) (v := ?_) rfl (by kernel_rfl) (by kernel_rfl) (by kernel_rfl) (by kernel_rfl) (by kernel_rfl) (fun _ _ _ h => h) (by rfl) ?_ ?_
  rotate_left
  · intro wx hS; refine lands_value ?_ hS; go_simp <;> with_reducible rfl
  try simp only [List.getElem_toArray, List.getElem_cons_zero, List.getElem_cons_succ, Act.put, List.setIfInBounds_toArray, List.set_cons_zero, List.set_cons_succ]
  refine wpU_takeC (i := 2) (v := ?_) rfl (by kernel_rfl) (by kernel_rfl) (by kernel_rfl) (by kernel_rfl) (by kernel_rfl) (fun _ _ _ h => h) (by rfl) ?_ ?_
  rotate_left
  · intro wx hS; refine lands_value ?_ hS; go_simp <;> with_reducible rfl
  try simp only [List.getElem_toArray, List.getElem_cons_zero, List.getElem_cons_succ, Act.put, List.setIfInBounds_toArray, List.set_cons_zero, List.set_cons_succ]
  refine wpU_takeC (i := 3) (v := ?_) rfl (by kernel_rfl) (by kernel_rfl) (by kernel_rfl) (by kernel_rfl) (by kernel_rfl) (fun _ _ _ h => h) (by rfl) ?_ ?_
  rotate_left
  · intro wx hS; refine lands_value ?_ hS; go_simp <;> with_reducible rfl
  try simp only [List.getElem_toArray, List.getElem_cons_zero, List.getElem_cons_succ, Act.put, List.setIfInBounds_toArray, List.set_cons_zero, List.set_cons_succ]
  refine wpU_takeC (i := 4) (v := ?_) rfl (by kernel_rfl) (by kernel_rfl) (by kernel_rfl) (by kernel_rfl) (by kernel_rfl) (fun _ _ _ h => h) (by rfl) ?_ ?_
  rotate_left
  · intro wx hS; refine lands_value ?_ hS; go_simp <;> with_reducible rfl
  try simp only [List.getElem_toArray, List.getElem_cons_zero, List.getElem_cons_succ, Act.put, List.setIfInBounds_toArray, List.set_cons_zero, List.set_cons_succ]
  refine wpU_takeC (i := 5) (v := ?_) rfl (by kernel_rfl) (by kernel_rfl) (by kernel_rfl) (by kernel_rfl) (by kernel_rfl) (fun _ _ _ h => h) (by rfl) ?_ ?_
  rotate_left
  · intro wx hS; refine lands_value ?_ hS; go_simp <;> with_reducible rfl
  try simp only [List.getElem_toArray, List.getElem_cons_zero, List.getElem_cons_succ, Act.put, List.setIfInBounds_toArray, List.set_cons_zero, List.set_cons_succ]
  refine wpU_takeC (i := 6) (v := ?_) rfl (by kernel_rfl) (by kernel_rfl) (by kernel_rfl) (by kernel_rfl) (by kernel_rfl) (fun _ _ _ h => h) (by rfl) ?_ ?_
  rotate_left
  · intro wx hS; obtain ⟨_, _, _, hct, _⟩ := DO.out wx M (H1.out.below hS) rfl rfl; refine lands_value ?_ hS; go_simp <;> with_reducible rfl
  try simp only [List.getElem_toArray, List.getElem_cons_zero, List.getElem_cons_succ, Act.put, List.setIfInBounds_toArray, List.set_cons_zero, List.set_cons_succ]
  refine wpU_takeC (i := 7) (v := .agg #[.slice r.h.r.a r.h.r.n r.h.r.c, .slice r.h.w.a r.h.w.n r.h.w.c, .slice r.h.c.a r.h.c.n r.h.c.c]) rfl (by kernel_rfl) (by kernel_rfl) (by kernel_rfl) (by kernel_rfl) (by kernel_rfl) (fun _ _ _ h => h) (by rfl) ?_ ?_
  · intro wx hS; refine lands_enter (w := wx) (f := 50) (args := #[.pointer (some ⟨M.b, 2, none⟩), .int .i64 (m + 1 : Nat)]) (by go_simp) ?_; refine (iTxn_gen wx (H1.out.below hS).inAt m r hr (H1.out.below hS).row.lt).mono ?_; rintro e w2 ⟨rfl, hb⟩; exact ⟨rfl, below_on hS hb⟩
  try simp only [List.getElem_toArray, List.getElem_cons_zero, List.getElem_cons_succ, Act.put, List.setIfInBounds_toArray, List.set_cons_zero, List.set_cons_succ]
  refine wpU_takeC (i := 8) (v := ?_) rfl (by kernel_rfl) (by kernel_rfl) (by kernel_rfl) (by kernel_rfl) (by kernel_rfl) (fun _ _ _ h => h) (by rfl) ?_ ?_
  rotate_left
  · intro wx hS; have hfl := run_field_txn r.h.r.a r.h.w.a r.h.c.a r.h.r.n r.h.r.c r.h.w.n r.h.w.c r.h.c.n r.h.c.c wx; refine lands_value ?_ hS; go_simp <;> with_reducible rfl
  try simp only [List.getElem_toArray, List.getElem_cons_zero, List.getElem_cons_succ, Act.put, List.setIfInBounds_toArray, List.set_cons_zero, List.set_cons_succ]
  refine wpU_takeC (i := 9) (v := ?_) rfl (by kernel_rfl) (by kernel_rfl) (by kernel_rfl) (by kernel_rfl) (by kernel_rfl) (fun _ _ _ h => h) (by rfl) ?_ ?_
  rotate_left
  · intro wx hS; refine lands_value ?_ hS; go_simp <;> with_reducible rfl
  try simp only [List.getElem_toArray, List.getElem_cons_zero, List.getElem_cons_succ, Act.put, List.setIfInBounds_toArray, List.set_cons_zero, List.set_cons_succ]
  refine wpU_takeC (i := 10) (v := ?_) rfl (by kernel_rfl) (by kernel_rfl) (by kernel_rfl) (by kernel_rfl) (by kernel_rfl) (fun _ _ _ h => h) (by rfl) ?_ ?_
  rotate_left
  · intro wx hS; refine lands_value ?_ hS; go_simp <;> with_reducible rfl
  try simp only [List.getElem_toArray, List.getElem_cons_zero, List.getElem_cons_succ, Act.put, List.setIfInBounds_toArray, List.set_cons_zero, List.set_cons_succ]
  refine wpU_leaf' _ (by kernel_rfl) ?_
  intro wx hS
  refine wpAny_none _ (by kernel_rfl) ?_
  have SX := hide (H1.out.below hS)
  have CX := hide (C1.out.trans (Chg.of_below hS _))
  have hkeys := (checkN_sound t HCK.out).2.2.2.2.1
  clear hS H1 C1
  rw [HWN.out]
  generalize hwa : r.h.w.a = wa
  have HWA := hide hwa
  clear hwa
  try simp only [Act.put]
  go_wp2
  go_loopw [4, 5, 6, 7, 23] (fun _ _ _ _ ix wr => ∃ j : Nat, j ≤ t.w.length ∧ ix = .int .i64 j ∧ SAt wr (M.settled (m + 1) t.w d.mac.said j) ∧ Chg w wr (fun k => k ∈ M.mut)) (fun _ _ _ _ ix _ => t.w.length - (intOf ix).toNat)
  case atStart => exact ⟨0, Nat.zero_le _, rfl, SX.out, CX.out⟩
  case round =>
    obtain ⟨j, hj, rfl, hSj, hCj⟩ := hrel
    have HSj := hide hSj
    have HCj := hide hCj
    clear hSj hCj SX CX
    by_cases hjl : j < t.w.length
    · obtain ⟨hk0, hk24⟩ := hkeys t.w[j] (List.getElem_mem hjl)
      obtain ⟨kn, hkn⟩ : ∃ kn : Nat, t.w[j] = kn := ⟨t.w[j].toNat, (Int.toNat_of_nonneg hk0).symm⟩
      have hkn24 : kn < 24 := by omega
      have hjk : t.w[j]? = some (kn : Int) := by rw [List.getElem?_eq_getElem hjl, hkn]
      have hgd : t.w.getD j 0 = (kn : Int) := by rw [List.getD, hjk]; rfl
      have hOT := (HSj.out.txn m r t hr ht hen).1
      obtain ⟨bw, ow, hbw, hcw, _⟩ := hOT.wO.ints.at hjl
      have kc := hcw j hjl
      rw [hgd] at kc
      obtain rfl : wa = some ⟨bw, ow, none⟩ := HWA.out.symm.trans hbw
      obtain ⟨pre, suf, hpl, hct, _, hmac, _⟩ := DO.out wr _ HSj.out rfl rfl
      have MS := hide (mSaid_any g 76 (pre ++ [.int .i64 d.txn]) suf d.mac wr hmac j (by omega))
      have e1 : (pre ++ [Value.int .i64 d.txn]).length = n * 30 + 1 := by simp [hpl]
      rw [e1] at MS
      have HN := hide (settled_succ M (m + 1) t.w d.mac.said j kn hgd)
      have hql : kn % M.mks.length < M.mks.length := Nat.mod_lt _ HSj.out.mk1
      have hmk : (M.settled (m + 1) t.w d.mac.said j).mks[kn % M.mks.length]? = some M.mks[kn % M.mks.length] := List.getElem?_eq_getElem hql
      have emap : ((M.settled (m + 1) t.w d.mac.said j).mapOf (kn % M.mks.length) kn).getD Sl.nil = (M.settled (m + 1) t.w d.mac.said j).vsl kn := by
        show (if kn % M.mks.length = kn % M.mks.length then M.vS kn else none).getD Sl.nil = (M.vS kn).getD Sl.nil
        rw [if_pos rfl]
      have hl1 : ((M.settled (m + 1) t.w d.mac.said j).vs kn).length ≤ 1000 := by
        show (settleTo _ _ _ _ _ _).length ≤ _
        rw [settleTo_length]
        have := hvl kn
        omega
      have hvm : ∀ k ∈ ((M.settled (m + 1) t.w d.mac.said j).vsl kn).blk, k ∈ M.mut := fun k hk => SM.mem_mut.2 (Or.inr ⟨kn, hkn24, hk⟩)
      have VO := hide (fun wx (hb : Below wr.heap.size wr wx) => versionsOf_gen wx (HSj.out.below hb).mkAt kn hkn24 _ hmk)
      have hjl' : (j : Int) < (t.w.length : Int) := by omega
      have hwj : IntKind.i64.wrap ((j : Int) + 1) = ((j + 1 : Nat) : Int) := by rw [IntKind.wrap_i64]; omega
      have hgl : g < wr.heap.size := lt_of_cell hct
      clear hcw hOT hgd hbw hmac hpl e1
      by_cases hsd : (d.mac.said j).said = true
      · have SY := hide (fun wx (hb : Below wr.heap.size wr wx) => vSay_any M.mks[kn % M.mks.length].g ((M.settled (m + 1) t.w d.mac.said j).mapOf (kn % M.mks.length)) kn (m + 1) (d.mac.said j).v (d.mac.said j).th ((M.settled (m + 1) t.w d.mac.said j).vs kn) wx ((HSj.out.below hb).maps _ _ hmk) (by rw [emap]; exact (HSj.out.below hb).vers kn hkn24) hl1)
        rw [emap] at SY
        simp only [Int.natCast_add, Int.natCast_one] at SY
        rw [hsd] at MS
        rw [if_pos hsd] at HN
        generalize d.mac.said j = sy at *
        obtain ⟨sd, sv, sth⟩ := sy
        simp only at SY MS HN
        clear hsd
        generalize M.mks[kn % M.mks.length] = mk at *
        go_wp2_with (go_at_call 90; refine MS.out.mono ?_; rintro e w2 ⟨rfl, hb2⟩; have HB2 := hide hb2; have A2 := hide (rowAt_alloc w2 [.int .i64 sv, .bool sth] 69); have C2 := hide (below_on hb2 (below_alloc1 w2 (.cells #[.int .i64 sv, .bool sth] 69))); clear hb2 MS)
        have CW := hide C2.out
        have AW := hide A2.out
        change Hid (RowAt (w2.alloc (.cells #[.int .i64 sv, .bool sth] 69)) w2.heap.size 69 [.int .i64 sv, .bool sth]) at AW
        have hcW := cell_on hct CW.out
        generalize w2.alloc (.cells #[.int .i64 sv, .bool sth] 69) = W at *
        clear A2 C2 HB2
        refine wp_region_U (L := #[true, true, true, true, true, true, true, true, true, false]) (S := (fun wz => Below W.heap.size W wz)) (by kernel_rfl) (Below.refl _ _).drew ?_
        refine wpU_takeC (i := 0) (v := ?_) rfl (by kernel_rfl) (by kernel_rfl) (by kernel_rfl) (by kernel_rfl) (by kernel_rfl) (fun _ _ _ h => h) (by rfl) ?_ ?_
        rotate_left
        · intro wx hS; refine lands_value ?_ hS; go_simp <;> with_reducible rfl
        try simp only [List.getElem_toArray, List.getElem_cons_zero, Act.put, List.setIfInBounds_toArray, List.set_cons_zero, List.set_cons_succ]
        refine wpU_takeC (i := 1) (v := ?_) rfl (by kernel_rfl) (by kernel_rfl) (by kernel_rfl) (by kernel_rfl) (by kernel_rfl) (fun _ _ _ h => h) (by rfl) ?_ ?_
        rotate_left
        · intro wx hS; refine lands_value ?_ hS; go_simp <;> with_reducible rfl
        try simp only [List.getElem_toArray, List.getElem_cons_zero, List.getElem_cons_succ, Act.put, List.setIfInBounds_toArray, List.set_cons_zero, List.set_cons_succ]
        refine wpU_takeC (i := 2) (v := .map (some mk.g)) rfl (by kernel_rfl) (by kernel_rfl) (by kernel_rfl) (by kernel_rfl) (by kernel_rfl) (fun _ _ _ h => h) (by rfl) ?_ ?_
        · intro wx hS; refine lands_enter (w := wx) (f := 56) (args := #[.pointer (some ⟨M.b, 0, none⟩), .int .i64 kn]) (by go_simp) ?_; refine (VO.out wx (below_on CW.out hS)).mono ?_; rintro e w3 ⟨rfl, q, rfl⟩; exact ⟨rfl, below_drewN hS q⟩
        try simp only [List.getElem_toArray, List.getElem_cons_zero, List.getElem_cons_succ, Act.put, List.setIfInBounds_toArray, List.set_cons_zero, List.set_cons_succ]
        refine wpU_takeC (i := 3) (v := ?_) rfl (by kernel_rfl) (by kernel_rfl) (by kernel_rfl) (by kernel_rfl) (by kernel_rfl) (fun _ _ _ h => h) (by rfl) ?_ ?_
        rotate_left
        · intro wx hS; refine lands_value ?_ hS; go_simp <;> with_reducible rfl
        try simp only [List.getElem_toArray, List.getElem_cons_zero, List.getElem_cons_succ, Act.put, List.setIfInBounds_toArray, List.set_cons_zero, List.set_cons_succ]
        refine wpU_takeC (i := 4) (v := ?_) rfl (by kernel_rfl) (by kernel_rfl) (by kernel_rfl) (by kernel_rfl) (by kernel_rfl) (fun _ _ _ h => h) (by rfl) ?_ ?_
        rotate_left
        · intro wx hS; refine lands_value ?_ hS; go_simp <;> with_reducible rfl
        try simp only [List.getElem_toArray, List.getElem_cons_zero, List.getElem_cons_succ, Act.put, List.setIfInBounds_toArray, List.set_cons_zero, List.set_cons_succ]
        refine wpU_takeC (i := 5) (v := ?_) rfl (by kernel_rfl) (by kernel_rfl) (by kernel_rfl) (by kernel_rfl) (by kernel_rfl) (fun _ _ _ h => h) (by rfl) ?_ ?_
        rotate_left
        · intro wx hS; refine lands_value ?_ hS; go_simp <;> with_reducible rfl
        try simp only [List.getElem_toArray, List.getElem_cons_zero, List.getElem_cons_succ, Act.put, List.setIfInBounds_toArray, List.set_cons_zero, List.set_cons_succ]
        refine wpU_takeC (i := 6) (v := ?_) rfl (by kernel_rfl) (by kernel_rfl) (by kernel_rfl) (by kernel_rfl) (by kernel_rfl) (fun _ _ _ h => h) (by rfl) ?_ ?_
        rotate_left
        · intro wx hS; refine lands_value ?_ hS; go_simp <;> with_reducible rfl
        try simp only [List.getElem_toArray, List.getElem_cons_zero, List.getElem_cons_succ, Act.put, List.setIfInBounds_toArray, List.set_cons_zero, List.set_cons_succ]
        refine wpU_takeC (i := 7) (v := ?_) rfl (by kernel_rfl) (by kernel_rfl) (by kernel_rfl) (by kernel_rfl) (by kernel_rfl) (fun _ _ _ h => h) (by rfl) ?_ ?_
        rotate_left
        · intro wx hS; have c1 := cell_on hcW hS; refine lands_value ?_ hS; go_simp <;> with_reducible rfl
        try simp only [List.getElem_toArray, List.getElem_cons_zero, List.getElem_cons_succ, Act.put, List.setIfInBounds_toArray, List.set_cons_zero, List.set_cons_succ]
        refine wpU_takeC (i := 8) (v := ?_) rfl (by kernel_rfl) (by kernel_rfl) (by kernel_rfl) (by kernel_rfl) (by kernel_rfl) (fun _ _ _ h => h) (by rfl) ?_ ?_
        rotate_left
        · intro wx hS; have b0 := cell_on (AW.out.cell' (i := 0) rfl) hS; have b1 := cell_on (AW.out.cell' (i := 1) rfl) hS; refine lands_value ?_ hS; go_simp <;> with_reducible rfl
        try simp only [List.getElem_toArray, List.getElem_cons_zero, List.getElem_cons_succ, Act.put, List.setIfInBounds_toArray, List.set_cons_zero, List.set_cons_succ]
        refine wpU_leaf' _ (by kernel_rfl) ?_
        intro wx hS
        refine wpAny_last (n := 9) (by kernel_rfl) (by kernel_rfl) rfl (by rfl) ?_
        go_simp
        refine (SY.out wx (below_on CW.out hS)).mono ?_
        rintro e w3 ⟨rfl, h1, h2⟩
        have S3 := hide (sAt_settle (HSj.out.below (below_on CW.out hS)) hkn24 h1 h2)
        rw [← HN.out] at S3
        have C3 := hide ((HCj.out.trans (Chg.of_below (below_on CW.out hS) _)).trans (h2.mono (fun k _ hk => hvm k hk)))
        clear h1 h2 SY
        go_wp2
        go_roundw
        case rel => exact ⟨j + 1, by omega, by go_num, S3.out, C3.out⟩
        case measure => simp [intOf]; omega
      · have SY := hide (fun wx (hb : Below wr.heap.size wr wx) => vPass_any M.mks[kn % M.mks.length].g ((M.settled (m + 1) t.w d.mac.said j).mapOf (kn % M.mks.length)) kn (m + 1) ((M.settled (m + 1) t.w d.mac.said j).vs kn) wx ((HSj.out.below hb).maps _ _ hmk) (by rw [emap]; exact (HSj.out.below hb).vers kn hkn24) hl1)
        rw [emap] at SY
        simp only [Int.natCast_add, Int.natCast_one] at SY
        have hsd' : (d.mac.said j).said = false := by simpa using hsd
        rw [hsd'] at MS
        rw [if_neg hsd] at HN
        generalize d.mac.said j = sy at *
        obtain ⟨sd, sv, sth⟩ := sy
        simp only at MS
        clear hsd hsd'
        generalize M.mks[kn % M.mks.length] = mk at *
        go_wp2_with (go_at_call 90; refine MS.out.mono ?_; rintro e w2 ⟨rfl, hb2⟩; have HB2 := hide hb2; have A2 := hide (rowAt_alloc w2 [.int .i64 sv, .bool sth] 69); have C2 := hide (below_on hb2 (below_alloc1 w2 (.cells #[.int .i64 sv, .bool sth] 69))); clear hb2 MS)
        have CW := hide C2.out
        have AW := hide A2.out
        change Hid (RowAt (w2.alloc (.cells #[.int .i64 sv, .bool sth] 69)) w2.heap.size 69 [.int .i64 sv, .bool sth]) at AW
        have hcW := cell_on hct CW.out
        generalize w2.alloc (.cells #[.int .i64 sv, .bool sth] 69) = W at *
        clear A2 C2 HB2
        refine wp_region_U (L := #[true, true, true, true, true, true, true, true, false]) (S := (fun wz => Below W.heap.size W wz)) (by kernel_rfl) (Below.refl _ _).drew ?_
        refine wpU_takeC (i := 0) (v := ?_) rfl (by kernel_rfl) (by kernel_rfl) (by kernel_rfl) (by kernel_rfl) (by kernel_rfl) (fun _ _ _ h => h) (by rfl) ?_ ?_
        rotate_left
        · intro wx hS; refine lands_value ?_ hS; go_simp <;> with_reducible rfl
        try simp only [List.getElem_toArray, List.getElem_cons_zero, Act.put, List.setIfInBounds_toArray, List.set_cons_zero, List.set_cons_succ]
        refine wpU_takeC (i := 1) (v := ?_) rfl (by kernel_rfl) (by kernel_rfl) (by kernel_rfl) (by kernel_rfl) (by kernel_rfl) (fun _ _ _ h => h) (by rfl) ?_ ?_
        rotate_left
        · intro wx hS; refine lands_value ?_ hS; go_simp <;> with_reducible rfl
        try simp only [List.getElem_toArray, List.getElem_cons_zero, List.getElem_cons_succ, Act.put, List.setIfInBounds_toArray, List.set_cons_zero, List.set_cons_succ]
        refine wpU_takeC (i := 2) (v := .map (some mk.g)) rfl (by kernel_rfl) (by kernel_rfl) (by kernel_rfl) (by kernel_rfl) (by kernel_rfl) (fun _ _ _ h => h) (by rfl) ?_ ?_
        · intro wx hS; refine lands_enter (w := wx) (f := 56) (args := #[.pointer (some ⟨M.b, 0, none⟩), .int .i64 kn]) (by go_simp) ?_; refine (VO.out wx (below_on CW.out hS)).mono ?_; rintro e w3 ⟨rfl, q, rfl⟩; exact ⟨rfl, below_drewN hS q⟩
        try simp only [List.getElem_toArray, List.getElem_cons_zero, List.getElem_cons_succ, Act.put, List.setIfInBounds_toArray, List.set_cons_zero, List.set_cons_succ]
        refine wpU_takeC (i := 3) (v := ?_) rfl (by kernel_rfl) (by kernel_rfl) (by kernel_rfl) (by kernel_rfl) (by kernel_rfl) (fun _ _ _ h => h) (by rfl) ?_ ?_
        rotate_left
        · intro wx hS; refine lands_value ?_ hS; go_simp <;> with_reducible rfl
        try simp only [List.getElem_toArray, List.getElem_cons_zero, List.getElem_cons_succ, Act.put, List.setIfInBounds_toArray, List.set_cons_zero, List.set_cons_succ]
        refine wpU_takeC (i := 4) (v := ?_) rfl (by kernel_rfl) (by kernel_rfl) (by kernel_rfl) (by kernel_rfl) (by kernel_rfl) (fun _ _ _ h => h) (by rfl) ?_ ?_
        rotate_left
        · intro wx hS; refine lands_value ?_ hS; go_simp <;> with_reducible rfl
        try simp only [List.getElem_toArray, List.getElem_cons_zero, List.getElem_cons_succ, Act.put, List.setIfInBounds_toArray, List.set_cons_zero, List.set_cons_succ]
        refine wpU_takeC (i := 5) (v := ?_) rfl (by kernel_rfl) (by kernel_rfl) (by kernel_rfl) (by kernel_rfl) (by kernel_rfl) (fun _ _ _ h => h) (by rfl) ?_ ?_
        rotate_left
        · intro wx hS; refine lands_value ?_ hS; go_simp <;> with_reducible rfl
        try simp only [List.getElem_toArray, List.getElem_cons_zero, List.getElem_cons_succ, Act.put, List.setIfInBounds_toArray, List.set_cons_zero, List.set_cons_succ]
        refine wpU_takeC (i := 6) (v := ?_) rfl (by kernel_rfl) (by kernel_rfl) (by kernel_rfl) (by kernel_rfl) (by kernel_rfl) (fun _ _ _ h => h) (by rfl) ?_ ?_
        rotate_left
        · intro wx hS; refine lands_value ?_ hS; go_simp <;> with_reducible rfl
        try simp only [List.getElem_toArray, List.getElem_cons_zero, List.getElem_cons_succ, Act.put, List.setIfInBounds_toArray, List.set_cons_zero, List.set_cons_succ]
        refine wpU_takeC (i := 7) (v := ?_) rfl (by kernel_rfl) (by kernel_rfl) (by kernel_rfl) (by kernel_rfl) (by kernel_rfl) (fun _ _ _ h => h) (by rfl) ?_ ?_
        rotate_left
        · intro wx hS; have c1 := cell_on hcW hS; refine lands_value ?_ hS; go_simp <;> with_reducible rfl
        try simp only [List.getElem_toArray, List.getElem_cons_zero, List.getElem_cons_succ, Act.put, List.setIfInBounds_toArray, List.set_cons_zero, List.set_cons_succ]
        refine wpU_leaf' _ (by kernel_rfl) ?_
        intro wx hS
        refine wpAny_last (n := 8) (by kernel_rfl) (by kernel_rfl) rfl (by rfl) ?_
        go_simp
        refine (SY.out wx (below_on CW.out hS)).mono ?_
        rintro e w3 ⟨rfl, h1, h2⟩
        have S3 := hide (sAt_settle (HSj.out.below (below_on CW.out hS)) hkn24 h1 h2)
        rw [← HN.out] at S3
        have C3 := hide ((HCj.out.trans (Chg.of_below (below_on CW.out hS) _)).trans (h2.mono (fun k _ hk => hvm k hk)))
        clear h1 h2 SY
        go_wp2
        go_roundw
        case rel => exact ⟨j + 1, by omega, by go_num, S3.out, C3.out⟩
        case measure => simp [intOf]; omega
    · obtain rfl : j = t.w.length := by omega
      obtain ⟨pre, suf, hpl, hct, _, hmac, _⟩ := DO.out wr _ HSj.out rfl rfl
      have e1 : (pre ++ [Value.int .i64 d.txn]).length = n * 30 + 1 := by simp [hpl]
      clear hpl hmac
      go_wp2
      refine wp_region_U (L := #[true, true, true, true, true, true, true, true, true, true, true, false]) (S := (fun wz => Below wr.heap.size wr wz)) (by kernel_rfl) (Below.refl _ _).drew ?_
      refine wpU_takeC (i := 0) (v := ?_) rfl (by kernel_rfl) (by kernel_rfl) (by kernel_rfl) (by kernel_rfl) (by kernel_rfl) (fun _ _ _ h => h) (by rfl) ?_ ?_
      rotate_left
      · intro wx hS; refine lands_value ?_ hS; go_simp <;> with_reducible rfl
      try simp only [List.getElem_toArray, List.getElem_cons_zero, Act.put, List.setIfInBounds_toArray, List.set_cons_zero, List.set_cons_succ]
      refine wpU_takeC (i := 1) (v := ?_) rfl (by kernel_rfl) (by kernel_rfl) (by kernel_rfl) (by kernel_rfl) (by kernel_rfl) (fun _ _ _ h => h) (by rfl) ?_ ?_
      rotate_left
      · intro wx hS; refine lands_value ?_ hS; go_simp <;> with_reducible rfl
      try simp only [List.getElem_toArray, List.getElem_cons_zero, List.getElem_cons_succ, Act.put, List.setIfInBounds_toArray, List.set_cons_zero, List.set_cons_succ]
      refine wpU_takeC (i := 2) (v := ?_) rfl (by kernel_rfl) (by kernel_rfl) (by kernel_rfl) (by kernel_rfl) (by kernel_rfl) (fun _ _ _ h => h) (by rfl) ?_ ?_
      rotate_left
      · intro wx hS; refine lands_value ?_ hS; go_simp <;> with_reducible rfl
      try simp only [List.getElem_toArray, List.getElem_cons_zero, List.getElem_cons_succ, Act.put, List.setIfInBounds_toArray, List.set_cons_zero, List.set_cons_succ]
      refine wpU_takeC (i := 3) (v := ?_) rfl (by kernel_rfl) (by kernel_rfl) (by kernel_rfl) (by kernel_rfl) (by kernel_rfl) (fun _ _ _ h => h) (by rfl) ?_ ?_
      rotate_left
      · intro wx hS; refine lands_value ?_ hS; go_simp <;> with_reducible rfl
      try simp only [List.getElem_toArray, List.getElem_cons_zero, List.getElem_cons_succ, Act.put, List.setIfInBounds_toArray, List.set_cons_zero, List.set_cons_succ]
      refine wpU_takeC (i := 4) (v := ?_) rfl (by kernel_rfl) (by kernel_rfl) (by kernel_rfl) (by kernel_rfl) (by kernel_rfl) (fun _ _ _ h => h) (by rfl) ?_ ?_
      rotate_left
      · intro wx hS; refine lands_value ?_ hS; go_simp <;> with_reducible rfl
      try simp only [List.getElem_toArray, List.getElem_cons_zero, List.getElem_cons_succ, Act.put, List.setIfInBounds_toArray, List.set_cons_zero, List.set_cons_succ]
      refine wpU_takeC (i := 5) (v := ?_) rfl (by kernel_rfl) (by kernel_rfl) (by kernel_rfl) (by kernel_rfl) (by kernel_rfl) (fun _ _ _ h => h) (by rfl) ?_ ?_
      rotate_left
      · intro wx hS; refine lands_value ?_ hS; go_simp <;> with_reducible rfl
      try simp only [List.getElem_toArray, List.getElem_cons_zero, List.getElem_cons_succ, Act.put, List.setIfInBounds_toArray, List.set_cons_zero, List.set_cons_succ]
      refine wpU_takeC (i := 6) (v := ?_) rfl (by kernel_rfl) (by kernel_rfl) (by kernel_rfl) (by kernel_rfl) (by kernel_rfl) (fun _ _ _ h => h) (by rfl) ?_ ?_
      rotate_left
      · intro wx hS; have c1 := cell_on hct hS; refine lands_value ?_ hS; go_simp <;> with_reducible rfl
      try simp only [List.getElem_toArray, List.getElem_cons_zero, List.getElem_cons_succ, Act.put, List.setIfInBounds_toArray, List.set_cons_zero, List.set_cons_succ]
      refine wpU_takeC (i := 7) (v := ?_) rfl (by kernel_rfl) (by kernel_rfl) (by kernel_rfl) (by kernel_rfl) (by kernel_rfl) (fun _ _ _ h => h) (by rfl) ?_ ?_
      rotate_left
      · intro wx hS; refine lands_value ?_ hS; go_simp <;> with_reducible rfl
      try simp only [List.getElem_toArray, List.getElem_cons_zero, List.getElem_cons_succ, Act.put, List.setIfInBounds_toArray, List.set_cons_zero, List.set_cons_succ]
      refine wpU_takeC (i := 8) (v := ?_) rfl (by kernel_rfl) (by kernel_rfl) (by kernel_rfl) (by kernel_rfl) (by kernel_rfl) (fun _ _ _ h => h) (by rfl) ?_ ?_
      rotate_left
      · intro wx hS; refine lands_value ?_ hS; go_simp <;> with_reducible rfl
      try simp only [List.getElem_toArray, List.getElem_cons_zero, List.getElem_cons_succ, Act.put, List.setIfInBounds_toArray, List.set_cons_zero, List.set_cons_succ]
      refine wpU_takeC (i := 9) (v := ?_) rfl (by kernel_rfl) (by kernel_rfl) (by kernel_rfl) (by kernel_rfl) (by kernel_rfl) (fun _ _ _ h => h) (by rfl) ?_ ?_
      rotate_left
      · intro wx hS; refine lands_value ?_ hS; go_simp <;> with_reducible rfl
      try simp only [List.getElem_toArray, List.getElem_cons_zero, List.getElem_cons_succ, Act.put, List.setIfInBounds_toArray, List.set_cons_zero, List.set_cons_succ]
      refine wpU_takeC (i := 10) (v := .agg #[.bool d.mac.ab, .int .i64 out]) rfl (by kernel_rfl) (by kernel_rfl) (by kernel_rfl) (by kernel_rfl) (by kernel_rfl) (fun _ _ _ h => h) (by rfl) ?_ ?_
      · intro wx hS; refine lands_enter (w := wx) (f := 93) (args := #[.pointer (some ⟨g, n * 30 + 1, none⟩)]) (by go_simp) ?_; obtain ⟨p', s', hp', _, _, hm', _⟩ := DO.out wx _ (HSj.out.below hS) rfl rfl; have mr := mResult_any g 76 (p' ++ [.int .i64 d.txn]) s' d.mac wx hm'; rw [show (p' ++ [Value.int .i64 d.txn]).length = n * 30 + 1 by simp [hp'], HOUT.out] at mr; refine mr.mono ?_; rintro e w3 ⟨rfl, hb⟩; exact ⟨rfl, below_on hS hb⟩
      try simp only [List.getElem_toArray, List.getElem_cons_zero, List.getElem_cons_succ, Act.put, List.setIfInBounds_toArray, List.set_cons_zero, List.set_cons_succ]
      refine wpU_leaf' _ (by kernel_rfl) ?_
      intro wx hS
      refine wpAny_last (n := 11) (by kernel_rfl) (by kernel_rfl) rfl (by rfl) ?_
      go_simp
      have HIN : InAt wx M.b M.recs M.rcS M.ends M.enS := (HSj.out.below hS).inAt
      have IE := iEnd_gen wx HIN m hml d.mac.ab out
      simp only [Int.natCast_add, Int.natCast_one] at IE
      refine IE.mono ?_
      rintro e w3 ⟨rfl, h1, h2⟩
      have S3 := hide (sAt_endRec (M := M.settled (m + 1) t.w d.mac.said t.w.length) (HSj.out.below hS) h1 h2)
      have C3 := hide ((HCj.out.trans (Chg.of_below hS _)).trans (h2.mono (fun k _ (hk : k ∈ M.rcS.blk) => SM.mem_mut.2 (Or.inl (by simp [SM.base, hk])))))
      clear h1 h2 IE hS hct e1
      obtain ⟨pre, suf, hpl, _, hrow, _, back⟩ := DO.out w3 { M.settled (m + 1) t.w d.mac.said t.w.length with recs := M.recs.set m (PRec.endAs d.mac.ab out) } S3.out rfl rfl
      have HRow := hide hrow
      have BK := hide back
      have hgl3 := hrow.lt
      have HL := hide (show n * 30 + (SDo.row ⟨0, Mac.zero⟩).length ≤ (pre ++ (d.row ++ suf)).length by rw [doZero_row, List.length_append, List.length_append, SDo.row_length HDR.out, hpl]; omega)
      have HPL := hide hpl
      clear hrow back hpl
      go_wp2_with (refine wpList_store_mid rfl 76 (.tmp 71) (.tmp 70) rfl g (n * 30) rfl (SDo.row ⟨0, Mac.zero⟩) (pre ++ (d.row ++ suf)) 76 HRow.out (by rfl) HL.out Try.size76 (doRow_oneCell _) ?_; intro w4 hr4 hc4 hs4)
      have R4 := hide hr4
      have C4 := hide hc4
      clear hr4 hc4 hs4
      go_end0
      refine ⟨rfl, ?_, C3.out.trans (C4.out.mono (fun k _ (e : k = g) => by rw [e]; exact hgm))⟩
      refine BK.out w4 ⟨0, Mac.zero⟩ ⟨rfl, rfl⟩ ?_ C4.out
      have R5 := R4.out
      rw [spl_mid (by rw [HPL.out]) (by rw [doZero_row, SDo.row_length HDR.out])] at R5
      exact R5

end Go.Proofs.Ytlheloogmgmjnaa

namespace Go.Proofs.Ytlheloogmgmjnaa
open Go.RowKit

theorem mac_desc : ∃ fs, Try.prog.underlying 74 = some (.struct fs) := by
  have h : (Try.prog.underlying 74).map (fun d => match d with | .struct _ => true | _ => false) = some true := by kernel_rfl
  cases hq : Try.prog.underlying 74 with
  | none => rw [hq] at h; cases h
  | some d =>
    rw [hq] at h
    cases d with
    | struct fs => exact ⟨fs, rfl⟩
    | _ => simp at h
theorem Try.size74 : (Try.prog.info? 74).map (·.size) = some 29 := by kernel_rfl

theorem wpList_alloc_let {P : Program} {w : World} {ops : Array Oper} {rest : List Oper} {o : Oper} {a : Act} {Q : Exit → Act → World → Prop} (hg : o.guard = none) (ty : TypeId) (ho : o.op = .alloc ty) (z : Value) (zs : List Value)
    (hz : (P.info? ty).bind (·.zero) = some z) (hc : z.cells = zs.toArray)
    (h : ∀ w' g, g = w.heap.size → RowAt w' g ty zs → Below w.heap.size w w' → w'.heap.size = w.heap.size + 1 → wpList P ops Q rest (a.put o.dst (.pointer (some ⟨g, 0, none⟩))) w') : wpList P ops Q (o :: rest) a w :=
  wpList_plain hg fun _ hK => wp_alloc_let ty ho z zs hz hc (fun w' g h1 h2 h3 h4 => hK _ _ (h w' g h1 h2 h3 h4))
theorem mac_zero : (Try.prog.info? 74).bind (·.zero) = some (.agg Mac.zero.row.toArray) := by kernel_rfl
theorem macRow_oneCell (m : Mac) : ∀ v ∈ m.row, v.oneCell' = true := fun v hv => doRow_oneCell ⟨0, m⟩ v (by simp [SDo.row, hv])
theorem run_build_mac (ra wa ca : Option Addr) (rn rc wn wc cn cc : Nat) (w : World) : (Instr.build 74 #[(0, .agg #[.slice ra rn rc, .slice wa wn wc, .slice ca cn cc])]).run Try.prog w = .ok (.agg (Mac.begin ⟨⟨ra, rn, rc⟩, ⟨wa, wn, wc⟩, ⟨ca, cn, cc⟩⟩).row.toArray) w := by kernel_rfl
theorem wpList_build_mac {w : World} {ops : Array Oper} {rest : List Oper} {o : Oper} {a : Act} {Q : Exit → Act → World → Prop} (hg : o.guard = none) (x : Operand) (ho : o.op = .build 74 #[(0, x)]) (ra wa ca : Option Addr) (rn rc wn wc cn cc : Nat)
    (hx : a.eval x = .agg #[.slice ra rn rc, .slice wa wn wc, .slice ca cn cc]) (v : Value) (hv : v = .agg (Mac.begin ⟨⟨ra, rn, rc⟩, ⟨wa, wn, wc⟩, ⟨ca, cn, cc⟩⟩).row.toArray) (h : wpList Try.prog ops Q rest (a.put o.dst v) w) : wpList Try.prog ops Q (o :: rest) a w := by
  refine wpList_plain hg fun K' hK' => ?_
  unfold Oper.wp execOp
  simp only [ho, List.map_toArray, List.map_cons, List.map_nil, hx, run_build_mac, Result.andThen_ok, Sem.run_bind, Sem.run_pure]
  subst hv
  exact hK' _ _ h

set_option maxHeartbeats 1000000 in
set_option maxRecDepth 100000 in
theorem mNew_any (ra wa ca : Option Addr) (rn rc wn wc cn cc : Nat) (v : Value) (hv : v = .agg (Mac.begin ⟨⟨ra, rn, rc⟩, ⟨wa, wn, wc⟩, ⟨ca, cn, cc⟩⟩).row.toArray) (w : World) :
    Calls Try.prog 86 #[.agg #[.slice ra rn rc, .slice wa wn wc, .slice ca cn cc]] w fun e w' =>
      e = .returned v ∧ Below w.heap.size w w' := by
  have HV := hide hv
  clear hv
  have A0 := hide (rowAt_alloc w [.slice ra rn rc, .slice wa wn wc, .slice ca cn cc] 25)
  have B0 := hide (below_alloc1 w (.cells #[.slice ra rn rc, .slice wa wn wc, .slice ca cn cc] 25))
  go_enter Try.func86, Try.ntmps86
  go_wp2_with (first
    | (refine wpList_alloc_let rfl 74 rfl _ Mac.zero.row mac_zero rfl ?_; intro w1 g1 e1 hr1 hb1 hs1; have R1 := hide hr1; have B1 := hide (below_on B0.out hb1); have A1 := hide (A0.out.below' hb1); have c0 := A1.out.cell' (i := 0) rfl; have c1 := A1.out.cell' (i := 1) rfl; have c2 := A1.out.cell' (i := 2) rfl; have E1 := hide e1; clear hr1 hb1 hs1 e1)
    | (refine wpList_build_mac rfl (.tmp 3) rfl ra wa ca rn rc wn wc cn cc rfl v HV.out ?_)
    | (refine wpList_store_mid rfl 74 (.tmp 2) (.tmp 4) rfl g1 0 rfl (Mac.begin ⟨⟨ra, rn, rc⟩, ⟨wa, wn, wc⟩, ⟨ca, cn, cc⟩⟩).row Mac.zero.row 74 R1.out (by rw [show _ = v from rfl, HV.out]; rfl) (by exact Nat.le_refl 29) Try.size74 (macRow_oneCell _) ?_; intro w2 hr2 hc2 hs2; have R2 := hide hr2; have C2 := hide hc2; clear hr2 hc2 hs2))
  obtain ⟨fs, hd1⟩ := mac_desc
  have R3 := R2.out
  rw [show spl Mac.zero.row 0 (Mac.begin ⟨⟨ra, rn, rc⟩, ⟨wa, wn, wc⟩, ⟨ca, cn, cc⟩⟩).row = (Mac.begin ⟨⟨ra, rn, rc⟩, ⟨wa, wn, wc⟩, ⟨ca, cn, cc⟩⟩).row from rfl] at R3
  refine bodyPost_ret (results_cell_row Try.results86 _ _ g1 74 (Mac.begin ⟨⟨ra, rn, rc⟩, ⟨wa, wn, wc⟩, ⟨ca, cn, cc⟩⟩).row.toArray (0, 0) (.struct fs) ?_ R3 hd1 rfl ?_) ?_ ?_
  · rfl
  · exact Try.size74
  · rfl
  · exact ⟨by rw [HV.out], B1.out.trans (C2.out.belowB (fun k hk => by rw [hk, E1.out]; exact B0.out.size) B1.out.size)⟩

/-- How the store stands when it has been looked whether a doer's transaction has ended. -/
def SM.endD (M : SM) (n m : Nat) (d : SDo) (t : Tx) : SM := if (d.mac.ab || decide (d.mac.h.c.n ≤ d.mac.next)) = true then M.freed n m t.w d.mac.said d.mac.ab (d.mac.regs.getD 0 0) else M
theorem endIfDone_any (M : SM) (w : World) (h : SAt w M) (n m : Nat) (d : SDo) (hd : M.dos[n]? = some d) (g : Nat) (hg : M.doS.a = some ⟨g, 0, none⟩)
    (hm : d.txn = m + 1) (r : PRec) (t : Tx) (hr : M.recs[m]? = some r) (ht : M.txs[m]? = some t) (hen : r.ended = false) (hvl : ∀ k, (M.vs k).length ≤ 500) :
    Calls Try.prog 75 #[.pointer (some ⟨M.b, 0, none⟩), .pointer (some ⟨g, n * 30, none⟩)] w fun e w' => e = .returned (.tuple #[]) ∧ SAt w' (M.endD n m d t) ∧ Chg w w' (fun k => k ∈ M.mut) := by
  unfold SM.endD
  by_cases he : (d.mac.ab || decide (d.mac.h.c.n ≤ d.mac.next)) = true
  · rw [if_pos he]
    exact endIfDone_yes M w h n m d hd g hg he hm r t hr ht hen hvl
  · rw [if_neg he]
    refine (endIfDone_no M w h n d hd g hg (by simpa using he)).mono ?_
    rintro e w' ⟨rfl, k, rfl⟩
    exact ⟨rfl, h.below (below_drewN (Below.refl _ _) k), Chg.drewN _ _ _⟩

theorem run_build_do (x : Int) (ra wa ca : Option Addr) (rn rc wn wc cn cc : Nat) (w : World) : (Instr.build 76 #[(0, .int .i64 x), (1, .agg (Mac.begin ⟨⟨ra, rn, rc⟩, ⟨wa, wn, wc⟩, ⟨ca, cn, cc⟩⟩).row.toArray)]).run Try.prog w = .ok (.agg (.int .i64 x :: (Mac.begin ⟨⟨ra, rn, rc⟩, ⟨wa, wn, wc⟩, ⟨ca, cn, cc⟩⟩).row).toArray) w := by kernel_rfl
theorem wpList_build_do {w : World} {ops : Array Oper} {rest : List Oper} {o : Oper} {a : Act} {Q : Exit → Act → World → Prop} (hg : o.guard = none) (x y : Operand) (ho : o.op = .build 76 #[(0, x), (1, y)]) (ra wa ca : Option Addr) (rn rc wn wc cn cc n : Nat)
    (hx : a.eval x = .int .i64 (n : Nat)) {u : Value} (hy : a.eval y = u) (hu : u = .agg (Mac.begin ⟨⟨ra, rn, rc⟩, ⟨wa, wn, wc⟩, ⟨ca, cn, cc⟩⟩).row.toArray) (v : Value) (hv : v = .agg (SDo.row ⟨n, Mac.begin ⟨⟨ra, rn, rc⟩, ⟨wa, wn, wc⟩, ⟨ca, cn, cc⟩⟩⟩).toArray) (h : wpList Try.prog ops Q rest (a.put o.dst v) w) : wpList Try.prog ops Q (o :: rest) a w := by
  refine wpList_plain hg fun K' hK' => ?_
  unfold Oper.wp execOp
  subst hu
  simp only [ho, List.map_toArray, List.map_cons, List.map_nil, hx, hy, run_build_do, Result.andThen_ok, Sem.run_bind, Sem.run_pure]
  subst hv
  exact hK' _ _ h

set_option maxHeartbeats 2000000 in
set_option maxRecDepth 100000 in
theorem begin_any (M : SM) (w : World) (h : SAt w M) (n m : Nat) (d : SDo) (hd : M.dos[n]? = some d) (g : Nat) (hg : M.doS.a = some ⟨g, 0, none⟩)
    (r : PRec) (t : Tx) (hr : M.recs[m]? = some r) (ht : M.txs[m]? = some t) (hen : r.ended = false) (hvl : ∀ k, (M.vs k).length ≤ 500) :
    Calls Try.prog 71 #[.pointer (some ⟨M.b, 0, none⟩), .pointer (some ⟨g, n * 30, none⟩), .int .i64 ((m : Int) + 1)] w fun e w' => e = .returned (.tuple #[]) ∧
      SAt w' (SM.endD { M with dos := M.dos.set n ⟨m + 1, Mac.begin r.h⟩ } n m ⟨m + 1, Mac.begin r.h⟩ t) ∧ Chg w w' (fun k => k ∈ M.mut) := by
  have hdr := h.dr d (List.mem_of_getElem? hd)
  have hnl : n < M.dos.length := by
    by_cases hb : n < M.dos.length
    · exact hb
    · rw [List.getElem?_eq_none (by omega)] at hd; cases hd
  have hgm : g ∈ M.mut := SM.mem_mut.2 (Or.inl (by simp only [SM.base, List.mem_cons, List.mem_append]; exact Or.inr (Or.inr (Or.inr (Or.inr (Or.inl (by simp [Sl.blk, hg])))))))
  have TX := hide (fun wx (hb : Below w.heap.size w wx) => iTxn_gen wx (h.below hb).inAt m r hr (h.below hb).row.lt)
  simp only [Int.natCast_add, Int.natCast_one] at TX
  have H := hide h
  have HDR := hide hdr
  have HG := hide hg
  clear h hdr hg
  obtain ⟨⟨⟨ra, rn, rc⟩, ⟨wa, wn, wc⟩, ⟨ca, cn, cc⟩⟩, ren, rab, rout⟩ := r
  simp only [TH.cells] at TX
  have DO : Hid (∀ wx, Below w.heap.size w wx → ∃ pre suf, pre.length = n * 30 ∧ n * 30 + (SDo.row ⟨m + 1, Mac.begin ⟨⟨ra, rn, rc⟩, ⟨wa, wn, wc⟩, ⟨ca, cn, cc⟩⟩⟩).length ≤ (pre ++ (d.row ++ suf)).length ∧ RowAt wx g 76 (pre ++ (d.row ++ suf)) ∧
      ∀ (w' : World) (d' : SDo), d'.mac.regs.length = 6 ∧ d'.mac.says.length = 6 → RowAt w' g 76 (spl (pre ++ (d.row ++ suf)) (n * 30) d'.row) → Chg wx w' (· = g) → SAt w' { M with dos := M.dos.set n d' }) := hide (by
    intro wx hb
    obtain ⟨g', pre, suf, hg', hpl, _, hrow, _, _, back⟩ := (H.out.below hb).doer hd
    obtain rfl : g' = g := by rw [HG.out] at hg'; simpa using hg'.symm
    refine ⟨pre, suf, hpl, ?_, hrow, ?_⟩
    · rw [List.length_append, List.length_append, SDo.row_length HDR.out, SDo.row_length ⟨rfl, rfl⟩, hpl]; omega
    · intro w' d' h6 hr' hc'
      rw [spl_mid hpl.symm (by rw [SDo.row_length h6, SDo.row_length HDR.out])] at hr'
      exact back w' d' h6 hr' hc')
  have ED := hide (fun wx (hS : SAt wx { M with dos := M.dos.set n ⟨m + 1, Mac.begin ⟨⟨ra, rn, rc⟩, ⟨wa, wn, wc⟩, ⟨ca, cn, cc⟩⟩⟩ }) => endIfDone_any { M with dos := M.dos.set n ⟨m + 1, Mac.begin ⟨⟨ra, rn, rc⟩, ⟨wa, wn, wc⟩, ⟨ca, cn, cc⟩⟩⟩ } wx hS n m ⟨m + 1, Mac.begin ⟨⟨ra, rn, rc⟩, ⟨wa, wn, wc⟩, ⟨ca, cn, cc⟩⟩⟩ (List.getElem?_set_self hnl) g HG.out rfl _ t hr ht hen hvl)
  clear hd hr ht hen hvl
  obtain ⟨mv, hmv⟩ : ∃ mv, mv = Value.agg (Mac.begin ⟨⟨ra, rn, rc⟩, ⟨wa, wn, wc⟩, ⟨ca, cn, cc⟩⟩).row.toArray := ⟨_, rfl⟩
  have MV := hide hmv
  clear hmv
  obtain ⟨dv, hdv⟩ : ∃ dv, dv = Value.agg (SDo.row ⟨m + 1, Mac.begin ⟨⟨ra, rn, rc⟩, ⟨wa, wn, wc⟩, ⟨ca, cn, cc⟩⟩⟩).toArray := ⟨_, rfl⟩
  have DV := hide hdv
  clear hdv
  go_enter Try.func71, Try.ntmps71
  go_wp2_with (go_at_call 50; refine (TX.out _ (Below.refl _ _)).mono ?_; rintro e w1 ⟨rfl, hb1⟩; have HB1 := hide hb1; clear hb1 TX)
  go_wp2_with (first
    | (go_at_call 86; refine (mNew_any _ _ _ _ _ _ _ _ _ mv MV.out _).mono ?_; rintro e w2 ⟨rfl, hb2⟩; have B2 := hide (below_on HB1.out hb2); clear hb2; obtain ⟨pre, suf, _, hl2, hr2, hk2⟩ := DO.out w2 B2.out; have L2 := hide hl2; have R2 := hide hr2; have K2 := hide hk2; clear hl2 hr2 hk2)
    | (refine wpList_build_do rfl (.tmp 7) (.tmp 13) rfl ra wa ca rn rc wn wc cn cc (m + 1) (show Value.int .i64 ((m : Int) + 1) = .int .i64 ((m + 1 : Nat) : Int) by rw [Int.natCast_add, Int.natCast_one]) (show _ = mv from rfl) MV.out dv DV.out ?_)
    | (refine wpList_store_mid rfl 76 (.tmp 15) (.tmp 14) rfl g (n * 30) rfl (SDo.row ⟨m + 1, Mac.begin ⟨⟨ra, rn, rc⟩, ⟨wa, wn, wc⟩, ⟨ca, cn, cc⟩⟩⟩) (pre ++ (d.row ++ suf)) 76 R2.out (by rw [show _ = dv from rfl, DV.out]; rfl) L2.out Try.size76 (doRow_oneCell _) ?_; intro w4 hr4 hc4 hs4; have R4 := hide hr4; have C4 := hide hc4; clear hr4 hc4 hs4))
  have S4 := hide (K2.out w4 ⟨m + 1, Mac.begin ⟨⟨ra, rn, rc⟩, ⟨wa, wn, wc⟩, ⟨ca, cn, cc⟩⟩⟩ ⟨rfl, rfl⟩ R4.out C4.out)
  have CC := hide ((Chg.of_below B2.out (fun k => k ∈ M.mut)).trans (C4.out.mono (fun k _ (e : k = g) => by rw [e]; exact hgm)))
  refine (ED.out w4 S4.out).mono ?_
  rintro e w5 ⟨rfl, h5, h6⟩
  have S5 := hide h5
  have C5 := hide (CC.out.trans h6)
  clear h5 h6
  go_wp2
  go_end0
  exact ⟨rfl, S5.out, C5.out⟩

end Go.Proofs.Ytlheloogmgmjnaa

namespace Go.Proofs.Ytlheloogmgmjnaa
open Go.RowKit

set_option maxHeartbeats 2000000 in
set_option maxRecDepth 100000 in
theorem take_no (M : SM) (w : World) (h : SAt w M) (q : Option Addr) (hdl : ∀ m ∈ M.mks, m.dealt ≤ 1000) (hno : M.took = M.last) :
    Calls Try.prog 53 #[.pointer (some ⟨M.b, 0, none⟩), .pointer q] w fun e w' => e = .returned (.bool false) ∧ Below w.heap.size w w' := by
  have RD := hide (fun wx (hb : Below w.heap.size w wx) => sready_any M wx (h.below hb) hdl)
  have H := hide h
  rw [← hno] at RD
  clear h hdl hno
  go_enter Try.func53, Try.ntmps53
  go_wp2_with (go_at_call 30; refine (RD.out _ (Below.refl _ _)).mono ?_; rintro e w1 ⟨rfl, hb1⟩; have HB1 := hide hb1; have c6 := (H.out.below hb1).row.cell' (i := 6) rfl; clear hb1 RD)
  go_ret
  exact ⟨rfl, HB1.out⟩

set_option maxHeartbeats 2000000 in
set_option maxRecDepth 100000 in
theorem take_yes (M : SM) (w : World) (h : SAt w M) (n : Nat) (d : SDo) (hd : M.dos[n]? = some d) (g : Nat) (hg : M.doS.a = some ⟨g, 0, none⟩) (hdl : ∀ m ∈ M.mks, m.dealt ≤ 1000) (hyes : M.took ≠ M.last)
    (m : Nat) (hm : M.took = m) (r : PRec) (t : Tx) (hr : M.recs[m]? = some r) (ht : M.txs[m]? = some t) (hen : r.ended = false) (hvl : ∀ k, (M.vs k).length ≤ 500) :
    Calls Try.prog 53 #[.pointer (some ⟨M.b, 0, none⟩), .pointer (some ⟨g, n * 30, none⟩)] w fun e w' => e = .returned (.bool true) ∧
      SAt w' (SM.endD { M with took := m + 1, dos := M.dos.set n ⟨m + 1, Mac.begin r.h⟩ } n m ⟨m + 1, Mac.begin r.h⟩ t) ∧ Chg w w' (fun k => k ∈ M.mut) := by
  have hml : m < M.recs.length := by
    by_cases hb : m < M.recs.length
    · exact hb
    · rw [List.getElem?_eq_none (by omega)] at hr; cases hr
  have htx := h.txns
  have RD := hide (fun wx (hb : Below w.heap.size w wx) => sready_any M wx (h.below hb) hdl)
  have BG := hide (fun wx (hS : SAt wx { M with took := m + 1 }) => begin_any { M with took := m + 1 } wx hS n m d hd g hg r t hr ht hen hvl)
  have H := hide h
  have hbm : M.b ∈ M.mut := SM.mem_mut.2 (Or.inl (by simp [SM.base]))
  rw [hm] at hyes
  generalize M.last = L at *
  generalize M.ready = Rd at *
  have hne : ((m : Int) == (L : Int)) = false := by simp; omega
  have hwr : IntKind.i64.wrap ((m : Int) + 1) = (m : Int) + 1 := by rw [IntKind.wrap_i64]; omega
  have HM := hide hm
  clear h hdl hd hg hr ht hen hvl hyes hm
  go_enter Try.func53, Try.ntmps53
  go_wp2_with (go_at_call 30; refine (RD.out _ (Below.refl _ _)).mono ?_; rintro e w1 ⟨rfl, hb1⟩; have H1 := hide (H.out.below hb1); have C1 := hide (Chg.of_below hb1 (fun k => k ∈ M.mut)); have c6 := H1.out.row.cell' (i := 6) rfl; have f6 := H1.out.row.frozen 6; rw [HM.out] at c6; clear hb1 RD)
  have S2 := hide (sAt_took H1.out (n := m + 1) (H1.out.row.set 6 (.int .i64 ((m : Int) + 1))) (Chg.setCell w1 ⟨M.b, 6, none⟩ (.int .i64 ((m : Int) + 1))))
  have C2 := hide (C1.out.trans ((Chg.setCell w1 ⟨M.b, 6, none⟩ (.int .i64 ((m : Int) + 1))).mono (fun k _ (e : k = M.b) => by rw [e]; exact hbm)))
  refine (BG.out _ S2.out).mono ?_
  rintro e w3 ⟨rfl, h3, h4⟩
  have S3 := hide h3
  have C3 := hide (C2.out.trans h4)
  clear h3 h4
  go_wp2
  go_ret
  exact ⟨rfl, S3.out, C3.out⟩

end Go.Proofs.Ytlheloogmgmjnaa

namespace Go.Proofs.Ytlheloogmgmjnaa
open Go.RowKit

set_option maxHeartbeats 4000000 in
set_option maxRecDepth 100000 in
theorem advance_core (M : SM) (w : World) (h : SAt w M) (n m : Nat) (d : SDo) (hd : M.dos[n]? = some d) (g : Nat) (hg : M.doS.a = some ⟨g, 0, none⟩) (hm : d.txn = m + 1)
    (r : PRec) (t : Tx) (hr : M.recs[m]? = some r) (ht : M.txs[m]? = some t) (hen : r.ended = false) (hvl : ∀ k, (M.vs k).length ≤ 500) (known : Bool) (mac' : Mac)
    (MS : ∀ (wx : World) (pre suf : List Value), Below w.heap.size w wx → SAt wx M → pre.length = n * 30 → MacAt wx g 76 (pre ++ [.int .i64 d.txn]) suf d.mac →
      wx.cell? ⟨w.heap.size, 0, none⟩ = some (.pointer (some ⟨M.b, 0, none⟩)) → wx.cell? ⟨w.heap.size + 1, 0, none⟩ = some (.pointer (some ⟨g, n * 30, none⟩)) → wx.cell? ⟨w.heap.size + 2, 0, none⟩ = some (.func (.func 55) #[] #[]) →
      Calls Try.prog 74 #[.pointer (some ⟨g, n * 30 + 1, none⟩), .func (.func 72) #[] #[.pointer (some ⟨w.heap.size, 0, none⟩), .pointer (some ⟨w.heap.size + 1, 0, none⟩), .pointer (some ⟨w.heap.size + 2, 0, none⟩)]] wx fun e w' =>
        e = .returned (.bool known) ∧ (known = false → Below wx.heap.size wx w') ∧ (known = true → MacAt w' g 76 (pre ++ [.int .i64 d.txn]) suf mac' ∧ Chg wx w' (· = g))) :
    Calls Try.prog 54 #[.pointer (some ⟨M.b, 0, none⟩), .pointer (some ⟨g, n * 30, none⟩), .func (.func 55) #[] #[]] w fun e w' =>
      e = .returned (.bool known) ∧ (known = false → Below w.heap.size w w') ∧ (known = true → SAt w' (SM.endD { M with dos := M.dos.set n ⟨m + 1, mac'⟩ } n m ⟨m + 1, mac'⟩ t) ∧ Chg w w' (fun k => k ∈ M.mut)) := by
  have hnl : n < M.dos.length := by
    by_cases hb : n < M.dos.length
    · exact hb
    · rw [List.getElem?_eq_none (by omega)] at hd; cases hd
  have hgm : g ∈ M.mut := SM.mem_mut.2 (Or.inl (by simp only [SM.base, List.mem_cons, List.mem_append]; exact Or.inr (Or.inr (Or.inr (Or.inr (Or.inl (by simp [Sl.blk, hg])))))))
  have hglt := h.mut_lt g hgm
  have ED := hide (fun wx (hS : SAt wx { M with dos := M.dos.set n ⟨m + 1, mac'⟩ }) => endIfDone_any { M with dos := M.dos.set n ⟨m + 1, mac'⟩ } wx hS n m ⟨m + 1, mac'⟩ (List.getElem?_set_self hnl) g hg rfl r t hr ht hen hvl)
  have DO : Hid (∀ wx, Below w.heap.size w wx → ∃ pre suf, pre.length = n * 30 ∧ MacAt wx g 76 (pre ++ [.int .i64 d.txn]) suf d.mac ∧
      ∀ (w' : World), MacAt w' g 76 (pre ++ [.int .i64 d.txn]) suf mac' → Chg wx w' (· = g) → SAt w' { M with dos := M.dos.set n ⟨m + 1, mac'⟩ }) := hide (by
    intro wx hb
    obtain ⟨g', pre, suf, hg', hpl, _, _, hmac, _, back⟩ := (h.below hb).doer hd
    obtain rfl : g' = g := by rw [hg] at hg'; simpa using hg'.symm
    refine ⟨pre, suf, hpl, hmac, fun w' hm' hc' => back w' ⟨m + 1, mac'⟩ ⟨hm'.r6, hm'.s6⟩ ?_ hc'⟩
    have := hm'.row
    rw [hm, List.append_assoc] at this
    exact this)
  have HMS := hide MS
  have H := hide h
  clear h hd hg hm hr ht hen hvl MS
  have B1 := below_alloc1 w (.cells #[.pointer (some ⟨M.b, 0, none⟩)] 34)
  have B2 := below_alloc1 (w.alloc (.cells #[.pointer (some ⟨M.b, 0, none⟩)] 34)) (.cells #[.pointer (some ⟨g, n * 30, none⟩)] 66)
  have B3 := below_alloc1 ((w.alloc (.cells #[.pointer (some ⟨M.b, 0, none⟩)] 34)).alloc (.cells #[.pointer (some ⟨g, n * 30, none⟩)] 66)) (.cells #[.func (.func 55) #[] #[]] 115)
  have R1 := rowAt_alloc w [.pointer (some ⟨M.b, 0, none⟩)] 34
  have R2 := rowAt_alloc (w.alloc (.cells #[.pointer (some ⟨M.b, 0, none⟩)] 34)) [.pointer (some ⟨g, n * 30, none⟩)] 66
  have R3 := rowAt_alloc ((w.alloc (.cells #[.pointer (some ⟨M.b, 0, none⟩)] 34)).alloc (.cells #[.pointer (some ⟨g, n * 30, none⟩)] 66)) [.func (.func 55) #[] #[]] 115
  have e1 : (w.alloc (.cells #[.pointer (some ⟨M.b, 0, none⟩)] 34)).heap.size = w.heap.size + 1 := by simp
  have e2 : ((w.alloc (.cells #[.pointer (some ⟨M.b, 0, none⟩)] 34)).alloc (.cells #[.pointer (some ⟨g, n * 30, none⟩)] 66)).heap.size = w.heap.size + 2 := by simp
  have Q1 := (R1.below' B2).below' B3
  have Q2 := R2.below' B3
  rw [e1] at Q2
  have Q3 := R3
  rw [e2] at Q3
  have BW := hide (below_on (below_on B1 B2) B3)
  have HQ1 := hide Q1
  have HQ2 := hide Q2
  have HQ3 := hide Q3
  clear B1 B2 B3 R1 R2 R3 e1 e2 Q1 Q2 Q3
  go_enter Try.func54, Try.ntmps54
  go_wp2_with fail
  change Hid (RowAt (((w.alloc (.cells #[.pointer (some ⟨M.b, 0, none⟩)] 34)).alloc (.cells #[.pointer (some ⟨g, n * 30, none⟩)] 66)).alloc (.cells #[.func (.func 55) #[] #[]] 115)) (w.heap.size + 2) 115 [.func (.func 55) #[] #[]]) at HQ3
  generalize ((w.alloc (.cells #[.pointer (some ⟨M.b, 0, none⟩)] 34)).alloc (.cells #[.pointer (some ⟨g, n * 30, none⟩)] 66)).alloc (.cells #[.func (.func 55) #[] #[]] 115) = W at *
  obtain ⟨pre, suf, hpl, hmac, back⟩ := DO.out W BW.out
  refine (HMS.out W pre suf BW.out (H.out.below BW.out) hpl hmac (HQ1.out.cell' (i := 0) rfl) (HQ2.out.cell' (i := 0) rfl) (HQ3.out.cell' (i := 0) rfl)).mono ?_
  rintro e w1 ⟨rfl, k1, k2⟩
  have BK := hide back
  have K1 := hide k1
  have K2 := hide k2
  clear hpl hmac back k1 k2 DO HMS
  cases known with
  | false =>
    have hb := K1.out rfl
    have HB := hide (below_on BW.out hb)
    clear hb
    go_wp2
    go_ret
    exact ⟨rfl, HB.out⟩
  | true =>
    obtain ⟨hm1, hc1⟩ := K2.out rfl
    have S1 := hide (BK.out w1 hm1 hc1)
    have C1 := hide ((Chg.of_below BW.out (fun k => k ∈ M.mut)).trans (hc1.mono (fun k _ (e : k = g) => by rw [e]; exact hgm)))
    have x1 := (HQ1.out.chg hc1 (by omega)).cell' (i := 0) rfl
    have x2 := (HQ2.out.chg hc1 (by omega)).cell' (i := 0) rfl
    clear hm1 hc1 BK K1 K2
    go_wp2_with fail
    refine (ED.out w1 S1.out).mono ?_
    rintro e w2 ⟨rfl, h3, h4⟩
    have S3 := hide h3
    have C3 := hide (C1.out.trans h4)
    clear h3 h4
    go_wp2
    go_ret
    exact ⟨rfl, S3.out, C3.out⟩

theorem advance_do (M : SM) (w : World) (h : SAt w M) (n m : Nat) (d : SDo) (hd : M.dos[n]? = some d) (g : Nat) (hg : M.doS.a = some ⟨g, 0, none⟩) (hm : d.txn = m + 1)
    (r : PRec) (t : Tx) (hr : M.recs[m]? = some r) (ht : M.txs[m]? = some t) (hen : r.ended = false) (hvl : ∀ k, (M.vs k).length ≤ 500) (hh : d.mac.h = r.h) (hn : d.mac.next < t.c.length)
    (h67 : ¬ ((t.c.getD d.mac.next Ins.zero).op = 6 ∨ (t.c.getD d.mac.next Ins.zero).op = 7)) (mac' : Mac) (hmac' : mac' = { mdo d.mac (t.c.getD d.mac.next Ins.zero) with next := (mdo d.mac (t.c.getD d.mac.next Ins.zero)).next + 1 }) :
    Calls Try.prog 54 #[.pointer (some ⟨M.b, 0, none⟩), .pointer (some ⟨g, n * 30, none⟩), .func (.func 55) #[] #[]] w fun e w' =>
      e = .returned (.bool true) ∧ SAt w' (SM.endD { M with dos := M.dos.set n ⟨m + 1, mac'⟩ } n m ⟨m + 1, mac'⟩ t) ∧ Chg w w' (fun k => k ∈ M.mut) := by
  refine (advance_core M w h n m d hd g hg hm r t hr ht hen hvl true mac' ?_).mono ?_
  · intro wx pre suf _ hS hpl hmac _ _ _
    obtain ⟨ho, hck, _⟩ := hS.txn m r t hr ht hen
    have := mStep_do t hck g 76 (pre ++ [.int .i64 d.txn]) suf d.mac wx hmac (by rw [hh]; exact ho.tx hck) hn h67 (.func (.func 72) #[] #[.pointer (some ⟨w.heap.size, 0, none⟩), .pointer (some ⟨w.heap.size + 1, 0, none⟩), .pointer (some ⟨w.heap.size + 2, 0, none⟩)])
    rw [show (pre ++ [Value.int .i64 d.txn]).length = n * 30 + 1 by simp [hpl], ← hmac'] at this
    refine this.mono ?_
    rintro e w' ⟨rfl, a, b⟩
    exact ⟨rfl, fun h => (by cases h), fun _ => ⟨a, b⟩⟩
  · rintro e w' ⟨rfl, _, a⟩
    exact ⟨rfl, a rfl⟩

theorem advance_look (M : SM) (w : World) (h : SAt w M) (n m : Nat) (d : SDo) (hd : M.dos[n]? = some d) (g : Nat) (hg : M.doS.a = some ⟨g, 0, none⟩) (hm : d.txn = m + 1)
    (r : PRec) (t : Tx) (hr : M.recs[m]? = some r) (ht : M.txs[m]? = some t) (hen : r.ended = false) (hvl : ∀ k, (M.vs k).length ≤ 500) (hh : d.mac.h = r.h) (hn : d.mac.next < t.c.length)
    (h67 : (t.c.getD d.mac.next Ins.zero).op = 6 ∨ (t.c.getD d.mac.next Ins.zero).op = 7) (kn : Nat) (hkn : t.r.getD (t.c.getD d.mac.next Ins.zero).b.toNat 0 = (kn : Int)) (hk24 : kn < 24) (hs : VSorted (M.vs kn))
    (v : Int) (th known : Bool) (hv : behindV (M.vs kn) m (M.vs kn).length = (v, th, known)) (mac' : Mac)
    (hmac' : mac' = { d.mac with regs := d.mac.regs.set (t.c.getD d.mac.next Ins.zero).a.toNat (if (t.c.getD d.mac.next Ins.zero).op = 6 then v else if th then 1 else 0), next := d.mac.next + 1 }) :
    Calls Try.prog 54 #[.pointer (some ⟨M.b, 0, none⟩), .pointer (some ⟨g, n * 30, none⟩), .func (.func 55) #[] #[]] w fun e w' =>
      e = .returned (.bool known) ∧ (known = false → Below w.heap.size w w') ∧ (known = true → SAt w' (SM.endD { M with dos := M.dos.set n ⟨m + 1, mac'⟩ } n m ⟨m + 1, mac'⟩ t) ∧ Chg w w' (fun k => k ∈ M.mut)) := by
  refine advance_core M w h n m d hd g hg hm r t hr ht hen hvl known mac' ?_
  intro wx pre suf _ hS hpl hmac c0 c1 c2
  obtain ⟨ho, hck, _⟩ := hS.txn m r t hr ht hen
  have hml : m < M.recs.length := by
    by_cases hb : m < M.recs.length
    · exact hb
    · rw [List.getElem?_eq_none (by omega)] at hr; cases hr
  have htx := h.txns
  have hql : kn % M.mks.length < M.mks.length := Nat.mod_lt _ h.mk1
  have hmk : M.mks[kn % M.mks.length]? = some M.mks[kn % M.mks.length] := List.getElem?_eq_getElem hql
  have emap : (M.mapOf (kn % M.mks.length) kn).getD Sl.nil = M.vsl kn := by
    show (if kn % M.mks.length = kn % M.mks.length then M.vS kn else none).getD Sl.nil = (M.vS kn).getD Sl.nil
    rw [if_pos rfl]
  have := mStep_look t hck g 76 (pre ++ [.int .i64 d.txn]) suf d.mac wx hmac (by rw [hh]; exact ho.tx hck) hn h67 ⟨w.heap.size, 0, none⟩ ⟨w.heap.size + 1, 0, none⟩ ⟨w.heap.size + 2, 0, none⟩ v th known (by
    intro wy hb
    have hSy := hS.below hb
    obtain ⟨g', _, _, hg', _, hct, _⟩ := hSy.doer hd
    obtain rfl : g' = g := by rw [hg] at hg'; simpa using hg'.symm
    rw [hm] at hct
    rw [hkn]
    have := advance1_any wy hSy.mkAt kn (m + 1) g' (n * 30) hk24 (by omega) (by omega) _ hmk (M.mapOf (kn % M.mks.length)) (hSy.maps _ _ hmk) (M.vs kn) (by rw [emap]; exact hSy.vers kn hk24) (by have := hvl kn; omega) hs w.heap.size 0 (w.heap.size + 1) 0 (w.heap.size + 2) 0 (cell_on c0 hb) (cell_on c1 hb) (cell_on c2 hb) hct
    rw [show (((m + 1 : Nat) : Int) - 1) = (m : Int) by omega, hv] at this
    exact this)
  rw [show (pre ++ [Value.int .i64 d.txn]).length = n * 30 + 1 by simp [hpl], ← hmac'] at this
  exact this

end Go.Proofs.Ytlheloogmgmjnaa

namespace Go.Proofs.Ytlheloogmgmjnaa
open Go.RowKit

def RM.didN (R : RM) (m : Nat) : Nat := ((R.tasks[m]?).map fun t => t.crs.did.length).getD 0
def RM.insN (R : RM) (d m : Nat) : Ins := ((R.tasks[m]?).map fun t => t.tx.c.getD (t.crs.did.getD (R.dids.getD d 0) 0) Ins.zero).getD Ins.zero
def RM.dstep (R : RM) (d : Nat) : Bool × RM :=
  if R.hand.getD d 0 = 0 then
    (if R.ready ≠ 0 ∧ R.taken < R.ends.getD (R.ready - 1) 0 then (true, if R.didN R.taken = 0 then (R.took d).freed d R.taken else R.took d) else (false, R))
  else if R.waitN (R.hand.getD d 0 - 1) (R.insN d (R.hand.getD d 0 - 1)) then (false, R)
  else (true, if R.dids.getD d 0 + 1 = R.didN (R.hand.getD d 0 - 1) then (R.withDid d (R.dids.getD d 0 + 1)).freed d (R.hand.getD d 0 - 1) else R.withDid d (R.dids.getD d 0 + 1))
def RM.step (R : RM) (i : Int) : Bool × RM :=
  if i < 0 ∨ (R.parts : Int) + R.doers < i then (false, R)
  else if i < R.parts then (if R.dealt.getD i.toNat 0 < R.closed then (true, R.withDealt i.toNat (R.dealt.getD i.toNat 0 + 1)) else (false, R))
  else R.dstep (i - R.parts).toNat

end Go.Proofs.Ytlheloogmgmjnaa

namespace Go.Proofs.Ytlheloogmgmjnaa
open Go.RowKit

set_option maxHeartbeats 1000000 in
theorem doerStep_free (M : SM) (w : World) (h : SAt w M) (n : Nat) (d : SDo) (hd : M.dos[n]? = some d) (g : Nat) (hg : M.doS.a = some ⟨g, 0, none⟩) (h0 : d.txn = 0) (Q : Ending → World → Prop)
    (hQ : Calls Try.prog 53 #[.pointer (some ⟨M.b, 0, none⟩), .pointer (some ⟨g, n * 30, none⟩)] w fun e w' => (∃ z, e = .returned (.bool z)) ∧ Q e w') :
    Calls Try.prog 28 #[.pointer (some ⟨M.b, 0, none⟩), .pointer (some ⟨g, n * 30, none⟩)] w Q := by
  obtain ⟨g', _, _, hg', _, hct, _⟩ := h.doer hd
  obtain rfl : g' = g := by rw [hg] at hg'; simpa using hg'.symm
  rw [h0] at hct
  have HQ := hide hQ
  clear h hd hg hg' hQ
  go_enter Try.func28, Try.ntmps28
  go_wp2_with fail
  refine HQ.out.mono ?_
  rintro e w1 ⟨⟨z, rfl⟩, hq⟩
  have H1 := hide hq
  clear hq HQ
  go_wp2
  exact H1.out

set_option maxHeartbeats 1000000 in
theorem doerStep_busy (M : SM) (w : World) (h : SAt w M) (n : Nat) (d : SDo) (hd : M.dos[n]? = some d) (g : Nat) (hg : M.doS.a = some ⟨g, 0, none⟩) (h0 : d.txn ≠ 0) (Q : Ending → World → Prop)
    (hQ : Calls Try.prog 54 #[.pointer (some ⟨M.b, 0, none⟩), .pointer (some ⟨g, n * 30, none⟩), .func (.func 55) #[] #[]] w fun e w' => (∃ z, e = .returned (.bool z)) ∧ Q e w') :
    Calls Try.prog 28 #[.pointer (some ⟨M.b, 0, none⟩), .pointer (some ⟨g, n * 30, none⟩)] w Q := by
  obtain ⟨g', _, _, hg', _, hct, _⟩ := h.doer hd
  obtain rfl : g' = g := by rw [hg] at hg'; simpa using hg'.symm
  have hne : ¬ (d.txn : Int) = 0 := by omega
  have HQ := hide hQ
  clear h hd hg hg' hQ
  generalize (d.txn : Int) = dt at *
  go_enter Try.func28, Try.ntmps28
  go_wp2_with fail
  refine HQ.out.mono ?_
  rintro e w1 ⟨⟨z, rfl⟩, hq⟩
  have H1 := hide hq
  clear hq HQ
  go_wp2
  exact H1.out

set_option maxHeartbeats 1000000 in
theorem pStep_off (M : SM) (w : World) (h : SAt w M) (i : Int) (hi : i < 0 ∨ (M.mks.length : Int) + M.dos.length < i) :
    Calls Try.prog 11 #[.pointer (some ⟨M.b, 0, none⟩), .int .i64 i] w fun e w' => e = .returned (.bool false) ∧ w' = w := by
  have c4 := h.row.cell' (i := 4) rfl
  have c5 := h.row.cell' (i := 5) rfl
  rw [h.mkn] at c4
  rw [h.don] at c5
  have m8 := h.mk8
  have d6 := h.do6
  have hwr : IntKind.i64.wrap ((M.mks.length : Int) + M.dos.length) = (M.mks.length : Int) + M.dos.length := by rw [IntKind.wrap_i64]; omega
  clear h
  generalize M.mks.length = A at *
  generalize M.dos.length = B at *
  rcases hi with hi | hi
  · go_enter Try.func11, Try.ntmps11
    go_wp2
    go_ret
    exact ⟨rfl, rfl⟩
  · have h1 : ¬ i < 0 := by omega
    have h2 : ¬ i < (A : Int) := by omega
    have h3 : ¬ i < (A : Int) + B := by omega
    have h4 : ¬ i = (A : Int) + B := by omega
    go_enter Try.func11, Try.ntmps11
    go_wp2
    go_ret
    exact ⟨rfl, rfl⟩

set_option maxHeartbeats 1000000 in
theorem pStep_maker (M : SM) (w : World) (h : SAt w M) (i : Nat) (hi : i < M.mks.length) (Q : Ending → World → Prop)
    (hQ : Calls Try.prog 27 #[.pointer (some ⟨M.b, 0, none⟩), .int .i64 i] w fun e w' => (∃ z, e = .returned (.bool z)) ∧ Q e w') :
    Calls Try.prog 11 #[.pointer (some ⟨M.b, 0, none⟩), .int .i64 i] w Q := by
  have c4 := h.row.cell' (i := 4) rfl
  have c5 := h.row.cell' (i := 5) rfl
  rw [h.mkn] at c4
  rw [h.don] at c5
  have m8 := h.mk8
  have d6 := h.do6
  have hwr : IntKind.i64.wrap ((M.mks.length : Int) + M.dos.length) = (M.mks.length : Int) + M.dos.length := by rw [IntKind.wrap_i64]; omega
  have HQ := hide hQ
  clear h hQ
  generalize M.mks.length = A at *
  generalize M.dos.length = B at *
  have h1 : ¬ (i : Int) < 0 := by omega
  have h2 : (i : Int) < (A : Int) := by omega
  go_enter Try.func11, Try.ntmps11
  go_wp2_with fail
  refine HQ.out.mono ?_
  rintro e w1 ⟨⟨z, rfl⟩, hq⟩
  have H1 := hide hq
  clear hq HQ
  go_wp2
  exact H1.out

set_option maxHeartbeats 1000000 in
theorem pStep_doer (M : SM) (w : World) (h : SAt w M) (d : Nat) (hd : d < M.dos.length) (g : Nat) (hg : M.doS.a = some ⟨g, 0, none⟩) (Q : Ending → World → Prop)
    (hQ : Calls Try.prog 28 #[.pointer (some ⟨M.b, 0, none⟩), .pointer (some ⟨g, d * 30, none⟩)] w fun e w' => (∃ z, e = .returned (.bool z)) ∧ Q e w') :
    Calls Try.prog 11 #[.pointer (some ⟨M.b, 0, none⟩), .int .i64 ((M.mks.length : Int) + d)] w Q := by
  have c4 := h.row.cell' (i := 4) rfl
  have c5 := h.row.cell' (i := 5) rfl
  rw [h.mkn] at c4
  rw [h.don, hg] at c5
  have m8 := h.mk8
  have d6 := h.do6
  have hwr : IntKind.i64.wrap ((M.mks.length : Int) + M.dos.length) = (M.mks.length : Int) + M.dos.length := by rw [IntKind.wrap_i64]; omega
  have HQ := hide hQ
  clear h hQ hg
  generalize M.mks.length = A at *
  generalize M.dos.length = B at *
  have h1 : ¬ (A : Int) + d < 0 := by omega
  have h2 : ¬ (A : Int) + d < (A : Int) := by omega
  have h3 : (A : Int) + d < (A : Int) + B := by omega
  have hws : IntKind.i64.wrap ((A : Int) + d - A) = (d : Int) := by rw [IntKind.wrap_i64]; omega
  have hdb : (d : Int) < (B : Int) := by omega
  go_enter Try.func11, Try.ntmps11
  go_wp2_with fail
  refine HQ.out.mono ?_
  rintro e w1 ⟨⟨z, rfl⟩, hq⟩
  have H1 := hide hq
  clear hq HQ
  go_wp2
  exact H1.out

end Go.Proofs.Ytlheloogmgmjnaa

namespace Go.Proofs.Ytlheloogmgmjnaa
open Go.RowKit

theorem foot_endD (M : SM) (n m : Nat) (d : SDo) (t : Tx) : ∀ k ∈ (M.endD n m d t).foot, k ∈ M.foot := by
  unfold SM.endD
  split
  · intro k hk
    refine SM.mem_foot.2 ?_
    rcases SM.mem_foot.1 hk with h1 | ⟨r, hr, he, h1⟩
    · exact Or.inl h1
    · have hr' : r ∈ M.recs.set m (PRec.endAs d.mac.ab (d.mac.regs.getD 0 0)) := hr
      rcases List.mem_or_eq_of_mem_set hr' with h2 | h2
      · exact Or.inr ⟨r, h2, he, h1⟩
      · rw [h2] at he; cases he
  · exact fun k hk => hk
theorem foot_endD2 {M M' : SM} {n m : Nat} {d : SDo} {t : Tx} {k : Nat} (hk : k ∈ (M'.endD n m d t).foot) (hf : M'.foot = M.foot) : k ∈ M.foot := hf ▸ foot_endD M' n m d t k hk
theorem versL_sorted (l : List Tsk) (key : Int) : ∀ n, VSorted (versL l key n)
  | 0 => List.Pairwise.nil
  | n + 1 => by
    unfold VSorted
    rw [versL, List.pairwise_append]
    refine ⟨versL_sorted l key n, ?_, ?_⟩
    · unfold tailV
      split
      · exact List.Pairwise.nil
      · split
        · exact List.pairwise_singleton _ _
        · exact List.Pairwise.nil
    · intro a ha b hb
      have h1 := (versL_txn l key n a ha).2
      unfold tailV at hb
      split at hb
      · simp at hb
      · split at hb
        · rw [List.mem_singleton.1 hb, verOf_txn]; omega
        · simp at hb
theorem Rel.sorted {M : SM} {R : RM} {X : Nat → Prop} (h : Rel M R X) (k : Nat) : VSorted (M.vs k) := by
  rw [h.vs k]; exact versL_sorted _ _ _
/-- What a look finds. -/
theorem Rel.look {M : SM} {R : RM} {X : Nat → Prop} (h : Rel M R X) {kn m : Nat} (hk : kn < 24) (hm : m < R.taken) (hml : m < R.tasks.length) :
    (waitsIn R.tasks (kn : Int) m = true → (behindV (M.vs kn) m (M.vs kn).length).2.2 = false) ∧
    (waitsIn R.tasks (kn : Int) m = false → behindV (M.vs kn) m (M.vs kn).length = (((behindTo (R.tasks.map (·.tx)) m).getD kn Slot.none).v, ((behindTo (R.tasks.map (·.tx)) m).getD kn Slot.none).th, true)) := by
  have hd := h.taken_dealt _ (h.dealt_get kn)
  rw [h.vs kn, behindV_cut R.tasks kn m _ (by omega)]
  have := behindV_value R.tasks kn h.gone (m : Int) m (by omega) (by omega)
  rw [behindTo_value R.tasks h.serial h.chk kn hk m (by omega)]
  exact this

theorem Rel.doS {w : World} {M : SM} {R : RM} {X : Nat → Prop} (_ : Rel M R X) (h : SAt w M) : ∃ g, M.doS.a = some ⟨g, 0, none⟩ := by
  obtain ⟨g, _, _, hg, _⟩ := h.doer (List.getElem?_eq_getElem (show 0 < M.dos.length from h.do1))
  exact ⟨g, hg⟩

end Go.Proofs.Ytlheloogmgmjnaa
