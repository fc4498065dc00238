import Derived.Test.YtlheloogmgmjnaaT14
import Derived.Test.YtlheloogmgmjnaaT15
import Derived.Test.YtlheloogmgmjnaaT07
import Derived.Test.YtlheloogmgmjnaaT04
import Derived.Laws.AppendOwn
import Derived.Test.YtlheloogmgmjnaaT13
namespace Go.Proofs.Ytlheloogmgmjnaa
open Go.RowKit

theorem zeroCells_mem (z : Array Value) (n : Nat) : ∀ v ∈ (Builtin.zeroCells z n).toList, 0 < z.size → v ∈ z.toList := by
  intro v hv hz
  simp only [Builtin.zeroCells, Array.toList_map, List.mem_map] at hv
  obtain ⟨i, _, rfl⟩ := hv
  have hlt : i % z.size < z.size := Nat.mod_lt _ hz
  rw [getElem!_pos z (i % z.size) hlt]
  exact Array.mem_toList_iff.2 (Array.getElem_mem hlt)

/-- clear of a slice whose elements have some cells, within a block: the world behind it. -/
theorem run_clear_row {P : Program} (w : World) (t e : TypeId) (z : Value) (zs : List Value) (g off n c : Nat) (cur : List Value) (ht : P.underlying t = some (.slice e)) (hv : (zeroValue e).run P w = .ok z w) (hz : z.cells = zs.toArray) (hz0 : 0 < zs.length)
    (h1 : ∀ v ∈ zs, v.oneCell' = true) (hg : RowAt w g e cur) (hl : off + n * zs.length ≤ cur.length) (hn : 0 < n) :
    ∃ ns : List Value, ns.length = n * zs.length ∧ ∀ ty, (Builtin.clear_ #[t] ty #[.slice (some ⟨g, off, none⟩) n c]).run P w = .ok (.tuple #[]) (w.setRow g (spl cur off ns).toArray) := by
  have hsz : z.cells.size = zs.length := by rw [hz]; simp
  have hlen : (Builtin.zeroCells z.cells n).toList.length = n * zs.length := by
    have := size_zeroCells z.cells n
    rw [hsz] at this
    simpa using this
  have hone : ∀ v ∈ (Builtin.zeroCells z.cells n).toList, v.oneCell' = true := by
    intro v hv
    have := zeroCells_mem z.cells n v hv (by omega)
    rw [hz] at this
    exact h1 v (by simpa using this)
  refine ⟨(Builtin.zeroCells z.cells n).toList, hlen, fun ty => ?_⟩
  have hst := run_storeCells_at P g off e (Builtin.zeroCells z.cells n).toList 0 cur.toArray w hg (by simp only [List.size_toArray]; rw [hlen]; omega) hone
  have e1 : (cur.toArray.toList.take (off + 0) ++ (Builtin.zeroCells z.cells n).toList ++ cur.toArray.toList.drop (off + 0 + (Builtin.zeroCells z.cells n).toList.length)) = spl cur off (Builtin.zeroCells z.cells n).toList := by simp [spl]
  rw [e1] at hst
  obtain ⟨m, rfl⟩ : ∃ m, n = m + 1 := ⟨n - 1, by omega⟩
  simp [Builtin.clear_, run_underlying ht, hv, hst]

theorem wp_append_run {P : Program} {w : World} {o : Oper} {a : Act} {K : Act → World → Prop} {Q : Exit → Act → World → Prop} (sO x : Operand) (t : TypeId)
    (ho : o.op = .call { callee := .builtin .append, args := #[sO, x], argTypes := #[t, t] }) (v1 v2 : Value) (hs : a.eval sO = v1) (hx : a.eval x = v2) (v : Value) (w' : World)
    (hr : ∀ ty, (Builtin.append_ #[t, t] ty #[v1, v2]).run P w = .ok v w') (h : K (a.put o.dst v) w') : o.wp P a w K Q := by
  unfold Oper.wp execOp
  simp only [ho, resolve, invoke, builtin, Sem.run_bind, Sem.run_pure, Result.andThen_ok, List.map_toArray, List.map_cons, List.map_nil, hs, hx, hr]
  exact h
theorem wpList_clear_run {P : Program} {w : World} {ops : Array Oper} {rest : List Oper} {o : Oper} {a : Act} {Q : Exit → Act → World → Prop} (hgd : o.guard = none) (sO : Operand) (t : TypeId)
    (ho : o.op = .call { callee := .builtin .clear, args := #[sO], argTypes := #[t] }) (v1 : Value) (hs : a.eval sO = v1) (v : Value) (w' : World)
    (hr : ∀ ty, (Builtin.clear_ #[t] ty #[v1]).run P w = .ok v w') (h : wpList P ops Q rest (a.put o.dst v) w') : wpList P ops Q (o :: rest) a w := by
  refine wpList_plain hgd fun K' hK' => ?_
  unfold Oper.wp execOp
  simp only [ho, resolve, invoke, builtin, Sem.run_bind, Sem.run_pure, Result.andThen_ok, List.map_toArray, List.map_cons, List.map_nil, hs, hr]
  exact hK' _ _ h

theorem verCells_drop (l : List Ver) : ∀ j, verCells (l.drop j) = (verCells l).drop (j * 4)
  | 0 => by simp
  | j + 1 => by
    cases l with
    | nil => simp [verCells]
    | cons x l =>
      rw [List.drop_succ_cons, verCells_drop l j, verCells_cons, show (j + 1) * 4 = j * 4 + 1 + 1 + 1 + 1 by omega]
      rfl

theorem Try.zero113 (w : World) : (zeroValue 113).run Try.prog w = .ok (.agg #[.int .i64 0, .int .i64 0, .int .i64 0, .bool false]) w := by kernel_rfl

set_option maxHeartbeats 4000000 in
set_option maxRecDepth 100000 in
theorem vDelete_any (b c j : Nat) (l : List Ver) (w : World) (h : VerAt w ⟨some ⟨b, 0, none⟩, l.length, c⟩ l) (hj0 : 0 < j) (hj : j < l.length) (hl : l.length ≤ 1000) :
    Calls Try.prog 78 #[.slice (some ⟨b, 0, none⟩) l.length c, .int .i64 0, .int .i64 j] w fun e w' =>
      e = .returned (.slice (some ⟨b, 0, none⟩) (l.length - j) c) ∧ VerAt w' ⟨some ⟨b, 0, none⟩, l.length - j, c⟩ (l.drop j) ∧ Chg w w' (· = b) := by
  obtain ⟨i0, hi, hz0, hz1, hz2⟩ := info_parts Try.info113
  obtain ⟨b', cur, hb', hr, hnc, hcl, htk, _⟩ : ∃ g' cur, (some (⟨b, 0, none⟩ : Addr)) = some ⟨g', 0, none⟩ ∧ RowAt w g' 113 cur ∧ l.length ≤ c ∧ cur.length = c * 4 ∧ cur.take (l.length * 4) = verCells l ∧ (verCells l).length = l.length * 4 := by
    rcases h.own.row with ⟨h1, _⟩ | h1
    · simp [Sl.nil] at h1
    · exact h1
  obtain rfl : b' = b := by simpa using hb'.symm
  have hcm : c ≤ maxLen := by
    obtain ⟨_, h1 | ⟨_, _, _, hv, _, _, _, hm, _⟩⟩ := h.own
    · simp at h1
    · simp at hv
      rw [hv.2]; exact hm
  have HCM := hide hcm
  clear hb' h hcm
  have hnews : ∀ q u, (verCells (l.drop j))[q]? = some u → w.drew.cell? ((⟨b', j * 4, none⟩ : Addr).add q) = some u := by
    intro q u hq
    rw [verCells_drop, List.getElem?_drop] at hq
    have hlt : j * 4 + q < l.length * 4 := by
      by_cases hb : j * 4 + q < l.length * 4
      · exact hb
      · rw [List.getElem?_eq_none (by rw [verCells_length]; omega)] at hq; cases hq
    rw [← htk, List.getElem?_take_of_lt hlt] at hq
    rw [addr_add]
    exact hr.cell' hq
  have hdl : (l.drop j).length = l.length - j := by simp
  have hnl : (verCells (l.drop j)).length = (l.length - j) * i0.size := by rw [verCells_length, hdl, hz1]
  have AP : Hid (∀ ty, (Builtin.append_ #[110, 110] ty #[.slice (some ⟨b', 0, none⟩) 0 c, .slice (some ⟨b', j * 4, none⟩) (l.length - j) (c - j)]).run Try.prog w.drew = .ok (.slice (some ⟨b', 0, none⟩) (l.length - j) c) (w.drew.setRow b' (spl cur 0 (verCells (l.drop j))).toArray)) := hide (fun ty => by
    have := run_append_room (P := Try.prog) w.drew 110 ty 113 i0 Try.underlying110 hi b' 0 c cur.toArray hr.drew ⟨b', j * 4, none⟩ (l.length - j) (c - j) (verCells (l.drop j)) hnl hnews (ver_oneCell _) (by omega) (by rw [hnl, hz1]; simp; omega)
    rw [this]
    simp [spl])
  have R1 := hide (show RowAt (w.drew.setRow b' (spl cur 0 (verCells (l.drop j))).toArray) b' 113 (spl cur 0 (verCells (l.drop j))) from setRow_heap w.drew b' cur.toArray _ 113 (0, 0) hr.drew)
  have C1 := hide ((Chg.refl w (· = b')).drew.trans (chg_setRow w.drew b' (spl cur 0 (verCells (l.drop j))).toArray))
  have hs1 : (spl cur 0 (verCells (l.drop j))).length = c * 4 := by rw [spl_length (by rw [hnl, hz1]; omega), hcl]
  have T1 := hide (show (spl cur 0 (verCells (l.drop j))).take ((l.length - j) * 4) = verCells (l.drop j) by
    unfold spl
    rw [List.take_zero, List.nil_append, List.take_append_of_le_length (by rw [hnl, hz1]; omega), List.take_of_length_le (by rw [hnl, hz1]; omega)])
  obtain ⟨ns, hns, hclr⟩ := run_clear_row (P := Try.prog) (w.drew.setRow b' (spl cur 0 (verCells (l.drop j))).toArray) 110 113 _ [.int .i64 0, .int .i64 0, .int .i64 0, .bool false] b' ((l.length - j) * 4) j (c - (l.length - j)) _ Try.underlying110 (Try.zero113 _) rfl (by decide) (ver_oneCell [Ver.zero]) R1.out (by rw [hs1]; simp; omega) hj0
  have CL := hide hclr
  have HNS := hide hns
  have HS1 := hide hs1
  have HNC := hide hnc
  have HDL := hide hdl
  clear hclr hns hs1 hi hz0 hz1 hz2 hnews hnl htk hcl hdl
  generalize hW1 : w.drew.setRow b' (spl cur 0 (verCells (l.drop j))).toArray = W1 at *
  clear hW1
  have hne : ¬ c = j := by omega
  have hne2 : ¬ c = l.length - j := by omega
  have hj' : ¬ (0 : Int) = (j : Int) := by omega
  have hjc : j ≤ c := by omega
  have hjl : j ≤ l.length := by omega
  have hsub : l.length - (l.length - j) = j := by omega
  have hlj : l.length - j ≤ c := by omega
  go_enter Try.func78, Try.ntmps78
  go_wp2
  refine wp_region_U (L := #[true, true, true, true, true, true, false, false]) (S := (fun wz => wz = w.drew)) (by kernel_rfl) rfl ?_
  refine wpU_takeC (i := 0) (v := ?_) rfl (by kernel_rfl) (by kernel_rfl) (by kernel_rfl) (by kernel_rfl) (by kernel_rfl) (fun _ _ _ h => h) (by rfl) ?_ ?_
  rotate_left
  · intro wx hS; subst hS; refine lands_value ?_ rfl; go_simp <;> with_reducible rfl
  try simp only [List.getElem_toArray, List.getElem_cons_zero, Act.put, List.setIfInBounds_toArray, List.set_cons_zero, List.set_cons_succ]
  refine wpU_takeC (i := 1) (v := ?_) rfl (by kernel_rfl) (by kernel_rfl) (by kernel_rfl) (by kernel_rfl) (by kernel_rfl) (fun _ _ _ h => h) (by rfl) ?_ ?_
  rotate_left
  · intro wx hS; subst hS; refine lands_value ?_ rfl; go_simp <;> with_reducible rfl
  try simp only [List.getElem_toArray, List.getElem_cons_zero, List.getElem_cons_succ, Act.put, List.setIfInBounds_toArray, List.set_cons_zero, List.set_cons_succ]
  refine wpU_takeC (i := 2) (v := ?_) rfl (by kernel_rfl) (by kernel_rfl) (by kernel_rfl) (by kernel_rfl) (by kernel_rfl) (fun _ _ _ h => h) (by rfl) ?_ ?_
  rotate_left
  · intro wx hS; subst hS; refine lands_value ?_ rfl; go_simp <;> with_reducible rfl
  try simp only [List.getElem_toArray, List.getElem_cons_zero, List.getElem_cons_succ, Act.put, List.setIfInBounds_toArray, List.set_cons_zero, List.set_cons_succ]
  refine wpU_takeC (i := 3) (v := ?_) rfl (by kernel_rfl) (by kernel_rfl) (by kernel_rfl) (by kernel_rfl) (by kernel_rfl) (fun _ _ _ h => h) (by rfl) ?_ ?_
  rotate_left
  · intro wx hS; subst hS; refine lands_value ?_ rfl; go_simp <;> with_reducible rfl
  try simp only [List.getElem_toArray, List.getElem_cons_zero, List.getElem_cons_succ, Act.put, List.setIfInBounds_toArray, List.set_cons_zero, List.set_cons_succ]
  refine wpU_takeC (i := 4) (v := ?_) rfl (by kernel_rfl) (by kernel_rfl) (by kernel_rfl) (by kernel_rfl) (by kernel_rfl) (fun _ _ _ h => h) (by rfl) ?_ ?_
  rotate_left
  · intro wx hS; subst hS; refine lands_value ?_ rfl; go_simp <;> with_reducible rfl
  try simp only [List.getElem_toArray, List.getElem_cons_zero, List.getElem_cons_succ, Act.put, List.setIfInBounds_toArray, List.set_cons_zero, List.set_cons_succ]
  refine wpU_takeC (i := 5) (v := ?_) rfl (by kernel_rfl) (by kernel_rfl) (by kernel_rfl) (by kernel_rfl) (by kernel_rfl) (fun _ _ _ h => h) (by rfl) ?_ ?_
  rotate_left
  · intro wx hS; subst hS; refine lands_value ?_ rfl; go_simp <;> with_reducible rfl
  try simp only [List.getElem_toArray, List.getElem_cons_zero, List.getElem_cons_succ, Act.put, List.setIfInBounds_toArray, List.set_cons_zero, List.set_cons_succ]
  refine wpU_leaf' _ (by kernel_rfl) ?_
  intro wx hS
  refine wpAny_one (n := 6) (by kernel_rfl) rfl (by rfl) (fun K hK => ?_)
  simp only [List.getElem_toArray, List.getElem_cons_zero, List.getElem_cons_succ]
  subst hS
  refine wp_append_run (.tmp 22) (.tmp 25) 110 rfl _ _ rfl rfl _ _ AP.out ?_
  refine hK.out _ _ ?_
  clear hK K AP
  refine wpAny_last (n := 7) (by kernel_rfl) (by kernel_rfl) rfl (by rfl) ?_
  simp only [List.getElem_toArray, List.getElem_cons_zero, List.getElem_cons_succ]
  go_simp
  go_wp2_with (refine wpList_clear_run rfl (.tmp 31) 110 rfl _ rfl _ _ CL.out ?_)
  go_ret
  refine ⟨rfl, ⟨?_, ?_⟩, C1.out.trans (chg_setRow W1 b' _)⟩
  · have hr2 : RowAt (W1.setRow b' (spl (spl cur 0 (verCells (l.drop j))) ((l.length - j) * 4) ns).toArray) b' 113 (spl (spl cur 0 (verCells (l.drop j))) ((l.length - j) * 4) ns) := setRow_heap W1 b' _ _ 113 (0, 0) R1.out
    refine ⟨by rw [verCells_length, HDL.out], Or.inr ⟨b', c, _, rfl, by omega, hr2, hlj, HCM.out, ?_, ?_⟩⟩
    · rw [List.size_toArray, spl_length (by rw [HS1.out, HNS.out]; simp; omega), HS1.out]
    · rw [List.toList_toArray]
      unfold spl
      rw [List.append_assoc, List.take_append_of_le_length (by rw [List.length_take]; have := HS1.out; unfold spl at this; show (l.length - j) * 4 ≤ _; omega), List.take_take, Nat.min_self]
      exact T1.out
  · exact HDL.out.symm

end Go.Proofs.Ytlheloogmgmjnaa

namespace Go.Proofs.Ytlheloogmgmjnaa
open Go.RowKit

set_option maxHeartbeats 2000000 in
set_option maxRecDepth 100000 in
theorem vCollect_no (g : Nat) (f : Nat → Option Sl) (key mark : Nat) (l : List Ver) (w : World) (h : IMapAt w g f) (hv : VerAt w ((f key).getD Sl.nil) l) (hl : l.length ≤ 1000) (hu : upToV l mark < 2) :
    Calls Try.prog 57 #[.map (some g), .int .i64 key, .int .i64 mark] w fun e w' => e = .returned (.int .i64 0) ∧ w' = w := by
  have LK := h.run_lookup 88 3 110 Try.underlying88' Try.underlying3' (Try.zero110 _) key
  have UP := hide (upTo_any ((f key).getD Sl.nil) mark l w hv hl)
  generalize (f key).getD Sl.nil = s at *
  obtain ⟨sa, sn, sc⟩ := s
  simp only [Sl.val] at LK UP
  generalize upToV l mark = U at *
  clear h hv
  have h1 : (U : Int) - 1 < 1 := by omega
  have hwr : IntKind.i64.wrap ((U : Int) - 1) = (U : Int) - 1 := by rw [IntKind.wrap_i64]; omega
  go_enter Try.func57, Try.ntmps57
  go_wp2_with (go_at_call 76; refine UP.out.mono ?_; rintro e w' ⟨rfl, rfl⟩)
  go_ret
  exact ⟨rfl, rfl⟩

theorem settleV_length (l : List Ver) (txn st : Nat) (v : Int) (th : Bool) : (settleV l txn st v th).length = l.length := by simp [settleV]

set_option maxHeartbeats 4000000 in
set_option maxRecDepth 100000 in
theorem vCollect_yes (g : Nat) (f : Nat → Option Sl) (key mark : Nat) (l : List Ver) (w : World) (h : IMapAt w g f) (hv : VerAt w ((f key).getD Sl.nil) l) (hl : l.length ≤ 1000) (hs : VSorted l) (hg : ∀ k ∈ ((f key).getD Sl.nil).blk, k ≠ g) (u : Nat) (hu1 : 1 ≤ u) (hu : upToV l mark = u + 1) :
    Calls Try.prog 57 #[.map (some g), .int .i64 key, .int .i64 mark] w fun e w' => e = .returned (.int .i64 u) ∧
      ∃ (s : Sl) (txn : Nat) (v : Int) (th : Bool), IMapAt w' g (fun j => if j = key then some s else f j) ∧ VerAt w' s ((settleV l txn 2 v th).drop u) ∧ (∀ k ∈ s.blk, k ∈ ((f key).getD Sl.nil).blk) ∧ Chg w w' (fun k => k = g ∨ k ∈ ((f key).getD Sl.nil).blk) := by
  have hul := upToV_le (mark : Int) l
  rw [hu] at hul
  obtain ⟨b, hsa, hbl, hblk⟩ := hv.blk (i := 0) (by omega)
  have LK := h.run_lookup 88 3 110 Try.underlying88' Try.underlying3' (Try.zero110 _) key
  have UP := hide (upTo_any ((f key).getD Sl.nil) mark l w hv hl)
  have BE := hide (vBehind_any g f key mark l w h hv hl hs)
  have SY := hide (fun wx (hb : Below w.heap.size w wx) txn v th => vSay_any g f key txn v th l wx (h.below hb) (hv.below hb) hl)
  have HM := hide h
  have hn := hv.n
  have HG := hide hg
  obtain ⟨c0, _⟩ := verCells_get l u (by omega)
  obtain ⟨b', hb', ct⟩ := hv.own.cell c0
  obtain rfl : b' = b := by rw [hsa] at hb'; simpa using hb'.symm
  clear h hv hg c0 hb'
  generalize hf : (f key).getD Sl.nil = s at *
  obtain ⟨sa, sn, sc⟩ := s
  simp only at hsa hn
  subst hsa hn
  simp only [Sl.val] at LK UP
  rw [hu] at UP
  generalize (behindV l mark l.length).1 = v at *
  generalize (behindV l mark l.length).2.1 = th at *
  generalize (behindV l mark l.length).2.2 = kn at *
  generalize (l.getD u Ver.zero).txn = tx at *
  have hwr : IntKind.i64.wrap (u : Int) = (u : Int) := by rw [IntKind.wrap_i64]; omega
  have h1 : ¬ (u : Int) < 1 := by omega
  have hidx : (u : Int) < (l.length : Int) := by omega
  have DL := hide (fun wx (hV : VerAt wx ⟨some ⟨b', 0, none⟩, l.length, sc⟩ (settleV l tx 2 v th)) => vDelete_any b' sc u (settleV l tx 2 v th) wx (by rw [settleV_length]; exact hV) (by omega) (by rw [settleV_length]; omega) (by rw [settleV_length]; exact hl))
  simp only [settleV_length] at DL
  clear hu hf
  go_enter Try.func57, Try.ntmps57
  go_wp2_with (first | (go_at_call 76; refine UP.out.mono ?_; rintro e w' ⟨rfl, rfl⟩) | (go_at_call 73; refine BE.out.mono ?_; rintro e w1 ⟨rfl, hb1⟩; have B1 := hide (below_on hb1 (below_alloc1 w1 (.cells #[.int .i64 v, .bool th] 69))); have A1 := hide (rowAt_alloc w1 [.int .i64 v, .bool th] 69); clear hb1))
  change Hid (RowAt (w1.alloc (.cells #[.int .i64 v, .bool th] 69)) w1.heap.size 69 [.int .i64 v, .bool th]) at A1
  generalize w1.alloc (.cells #[.int .i64 v, .bool th] 69) = W at *
  have ct1 := cell_on ct B1.out
  clear ct LK UP BE
  refine wp_region_U (L := #[true, true, true, true, true, true, true, true, false]) (S := (fun wz => Below W.heap.size W wz)) (by kernel_rfl) (Below.refl _ _).drew ?_
  refine wpU_takeC (i := 0) (v := ?_) rfl (by kernel_rfl) (by kernel_rfl) (by kernel_rfl) (by kernel_rfl) (by kernel_rfl) (fun _ _ _ h => h) (by rfl) ?_ ?_
  rotate_left
  · intro wx hS; refine lands_value ?_ hS; go_simp <;> with_reducible rfl
  try simp only [List.getElem_toArray, List.getElem_cons_zero, Act.put, List.setIfInBounds_toArray, List.set_cons_zero, List.set_cons_succ]
  refine wpU_takeC (i := 1) (v := ?_) rfl (by kernel_rfl) (by kernel_rfl) (by kernel_rfl) (by kernel_rfl) (by kernel_rfl) (fun _ _ _ h => h) (by rfl) ?_ ?_
  rotate_left
  · intro wx hS; refine lands_value ?_ hS; go_simp <;> with_reducible rfl
  try simp only [List.getElem_toArray, List.getElem_cons_zero, List.getElem_cons_succ, Act.put, List.setIfInBounds_toArray, List.set_cons_zero, List.set_cons_succ]
  refine wpU_takeC (i := 2) (v := ?_) rfl (by kernel_rfl) (by kernel_rfl) (by kernel_rfl) (by kernel_rfl) (by kernel_rfl) (fun _ _ _ h => h) (by rfl) ?_ ?_
  rotate_left
  · intro wx hS; refine lands_value ?_ hS; go_simp <;> with_reducible rfl
  try simp only [List.getElem_toArray, List.getElem_cons_zero, List.getElem_cons_succ, Act.put, List.setIfInBounds_toArray, List.set_cons_zero, List.set_cons_succ]
  refine wpU_takeC (i := 3) (v := ?_) rfl (by kernel_rfl) (by kernel_rfl) (by kernel_rfl) (by kernel_rfl) (by kernel_rfl) (fun _ _ _ h => h) (by rfl) ?_ ?_
  rotate_left
  · intro wx hS; refine lands_value ?_ hS; go_simp <;> with_reducible rfl
  try simp only [List.getElem_toArray, List.getElem_cons_zero, List.getElem_cons_succ, Act.put, List.setIfInBounds_toArray, List.set_cons_zero, List.set_cons_succ]
  refine wpU_takeC (i := 4) (v := ?_) rfl (by kernel_rfl) (by kernel_rfl) (by kernel_rfl) (by kernel_rfl) (by kernel_rfl) (fun _ _ _ h => h) (by rfl) ?_ ?_
  rotate_left
  · intro wx hS; refine lands_value ?_ hS; go_simp <;> with_reducible rfl
  try simp only [List.getElem_toArray, List.getElem_cons_zero, List.getElem_cons_succ, Act.put, List.setIfInBounds_toArray, List.set_cons_zero, List.set_cons_succ]
  refine wpU_takeC (i := 5) (v := ?_) rfl (by kernel_rfl) (by kernel_rfl) (by kernel_rfl) (by kernel_rfl) (by kernel_rfl) (fun _ _ _ h => h) (by rfl) ?_ ?_
  rotate_left
  · intro wx hS; refine lands_value ?_ hS; go_simp <;> with_reducible rfl
  try simp only [List.getElem_toArray, List.getElem_cons_zero, List.getElem_cons_succ, Act.put, List.setIfInBounds_toArray, List.set_cons_zero, List.set_cons_succ]
  refine wpU_takeC (i := 6) (v := ?_) rfl (by kernel_rfl) (by kernel_rfl) (by kernel_rfl) (by kernel_rfl) (by kernel_rfl) (fun _ _ _ h => h) (by rfl) ?_ ?_
  rotate_left
  · intro wx hS; have q0 := cell_on ct1 hS; refine lands_value ?_ hS; go_simp <;> with_reducible rfl
  try simp only [List.getElem_toArray, List.getElem_cons_zero, List.getElem_cons_succ, Act.put, List.setIfInBounds_toArray, List.set_cons_zero, List.set_cons_succ]
  refine wpU_takeC (i := 7) (v := ?_) rfl (by kernel_rfl) (by kernel_rfl) (by kernel_rfl) (by kernel_rfl) (by kernel_rfl) (fun _ _ _ h => h) (by rfl) ?_ ?_
  rotate_left
  · intro wx hS; have b0 := cell_on (A1.out.cell' (i := 0) rfl) hS; have b1 := cell_on (A1.out.cell' (i := 1) rfl) hS; refine lands_value ?_ hS; go_simp <;> with_reducible rfl
  try simp only [List.getElem_toArray, List.getElem_cons_zero, List.getElem_cons_succ, Act.put, List.setIfInBounds_toArray, List.set_cons_zero, List.set_cons_succ]
  refine wpU_leaf' _ (by kernel_rfl) ?_
  intro wx hS
  refine wpAny_last (n := 8) (by kernel_rfl) (by kernel_rfl) rfl (by rfl) ?_
  go_simp
  refine (SY.out wx (below_on B1.out hS) tx v th).mono ?_
  rintro e w3 ⟨rfl, h3, c3⟩
  have V3 := hide h3
  have M3 := hide ((HM.out.below (below_on B1.out hS)).chg c3 (fun hk => HG.out g hk rfl))
  have C3 := hide ((Chg.of_below (below_on B1.out hS) (fun k => k = g ∨ k ∈ Sl.blk ⟨some ⟨b', 0, none⟩, l.length, sc⟩)).trans (c3.mono (fun k _ hk => Or.inr hk)))
  clear h3 c3 SY hS
  go_wp2_with (first
    | (go_at_call 78; refine (DL.out _ V3.out).mono ?_; rintro e w4 ⟨rfl, h4, c4⟩; have V4 := hide h4; have C4 := hide c4; clear h4 c4)
    | (at_mapUpdate; refine wpList_mapUpdate_i rfl (.tmp 36) (.tmp 37) (.tmp 40) 88 rfl 3 110 Try.underlying88' Try.underlying3' g f rfl (M3.out.chg C4.out (fun hk => HG.out g (by simp [Sl.blk, hk]) rfl)) key ⟨some ⟨b', 0, none⟩, l.length - u, sc⟩ rfl rfl ?_; intro w5 hm5 ch5 sz5; have M5 := hide hm5; have C5 := hide ch5; clear hm5 ch5 sz5))
  go_ret
  refine ⟨rfl, ⟨some ⟨b', 0, none⟩, l.length - u, sc⟩, tx, v, th, M5.out, ?_, ?_, ?_⟩
  · exact V4.out.chg C5.out (fun k hk e => HG.out k hk e)
  · intro k hk; exact hk
  · exact (C3.out.trans (C4.out.mono (fun k _ hk => Or.inr (by simp [Sl.blk, hk])))).trans (C5.out.mono (fun k _ hk => Or.inl hk))

end Go.Proofs.Ytlheloogmgmjnaa
