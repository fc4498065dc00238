import Derived.Test.YtlheloogmgmjnaaT11
import Derived.Test.YtlheloogmgmjnaaT09
import Derived.Maps.Own
namespace Go.Proofs.Ytlheloogmgmjnaa
open Go.RowKit

theorem verCells_append (l m : List Ver) : verCells (l ++ m) = verCells l ++ verCells m := by simp [verCells]
theorem ver_oneCell (l : List Ver) : ∀ v ∈ verCells l, v.oneCell' = true := by
  intro v hv
  simp only [verCells, List.mem_flatMap] at hv
  obtain ⟨x, _, hx⟩ := hv
  simp only [Ver.row, List.mem_cons, List.not_mem_nil, or_false] at hx
  rcases hx with h | h | h | h <;> subst h <;> rfl
theorem Try.info113 : (Try.prog.info? 113).map (fun i => (i.zero, i.size, i.bytes)) = some (some (.agg #[.int .i64 0, .int .i64 0, .int .i64 0, .bool false]), 4, 32) := by kernel_rfl
theorem Try.underlying110 : Try.prog.underlying 110 = some (.slice 113) := by kernel_rfl

theorem wpList_mapUpdate_i {P : Program} {w : World} {ops : Array Oper} {rest : List Oper} {o : Oper} {a : Act} {Q : Exit → Act → World → Prop}
    (hg : o.guard = none) (m x v : Operand) (t : TypeId) (hop : o.op = Op.mapUpdate t m x v) (kt et : TypeId) (ht : P.underlying t = some (.map kt et)) (hd : P.underlying kt = some (.int .i64)) (g : Nat) (f : Nat → Option Sl)
    (hm : a.eval m = .map (some g)) (h : IMapAt w g f) (k : Nat) (s : Sl) (hx : a.eval x = .int .i64 k) (hv : a.eval v = .slice s.a s.n s.c)
    (hK : ∀ w', IMapAt w' g (fun j => if j = k then some s else f j) → Chg w w' (· = g) → w'.heap.size = w.heap.size → wpList P ops Q rest (a.put o.dst undef) w') :
    wpList P ops Q (o :: rest) a w := by
  refine wpList_plain hg fun K' hK' => ?_
  obtain ⟨w', hrun, r1, r2, r3⟩ := h.run_update t kt et ht hd k s
  simp only [Sl.val] at hrun
  unfold Oper.wp
  simp [execOp, hop, hm, hx, hv, hrun, Result.andThen]
  exact hK' _ _ (hK w' r1 r2 r3)

set_option maxHeartbeats 4000000 in
set_option maxRecDepth 100000 in
theorem vMake_any (g : Nat) (f : Nat → Option Sl) (key txn : Nat) (l : List Ver) (w : World) (h : IMapAt w g f) (hv : VerAt w ((f key).getD Sl.nil) l) (hl : l.length ≤ 1000) (hg : ∀ k ∈ ((f key).getD Sl.nil).blk, k ≠ g) :
    Calls Try.prog 52 #[.map (some g), .int .i64 key, .int .i64 txn] w fun e w' =>
      e = .returned (.tuple #[]) ∧ ∃ s : Sl, IMapAt w' g (fun j => if j = key then some s else f j) ∧ VerAt w' s (l ++ [⟨txn, 0, 0, false⟩]) ∧ (∀ k ∈ s.blk, k ∈ ((f key).getD Sl.nil).blk ∨ w.heap.size ≤ k) ∧ Chg w w' (fun k => k = g ∨ k ∈ ((f key).getD Sl.nil).blk) := by
  obtain ⟨i0, hi, hz0, hz1, hz2⟩ := info_parts Try.info113
  have LK := h.run_lookup 88 3 110 Try.underlying88' Try.underlying3' (Try.zero110 _) key
  have hglt := h.lt
  have HM := hide (h.below (below_alloc1 w (.cells #[.int .i64 txn, .int .i64 0, .int .i64 0, .bool false] 113)))
  have HV := hide (hv.below (below_alloc1 w (.cells #[.int .i64 txn, .int .i64 0, .int .i64 0, .bool false] 113))).own
  have hn := hv.n
  have HB := hide (below_alloc1 w (.cells #[.int .i64 txn, .int .i64 0, .int .i64 0, .bool false] 113))
  have HR := hide (rowAt_alloc w [.int .i64 txn, .int .i64 0, .int .i64 0, .bool false] 113)
  have HP : Hid (∀ ad, some (⟨w.heap.size, 0, none⟩ : Addr) = some ad → ∀ j u, ([.int .i64 txn, .int .i64 0, .int .i64 0, .bool false] : List Value)[j]? = some u → (w.alloc (.cells #[.int .i64 txn, .int .i64 0, .int .i64 0, .bool false] 113)).cell? (ad.add j) = some u) := hide (by
    intro ad had j u hj
    simp at had; subst had
    have := HR.out.cell' (i := j) hj
    have e : (⟨w.heap.size, 0, none⟩ : Addr).add j = ⟨w.heap.size, j, none⟩ := by
      unfold Addr.add
      split
      · rename_i h; simp_all
      · simp
    rw [e]; exact this)
  have HO : Hid (∀ u ∈ ([.int .i64 txn, .int .i64 0, .int .i64 0, .bool false] : List Value), u.oneCell' = true) := hide (ver_oneCell [⟨txn, 0, 0, false⟩])
  have M1 := hide (show ((f key).getD Sl.nil).n + 1 ≤ maxLen by rw [hn]; unfold maxLen; omega)
  have Q1 := hide (show (((f key).getD Sl.nil).n + 1) * 32 ≤ 140737488355328 by rw [hn]; omega)
  have HN := hide hn
  clear hn
  have HG := hide hg
  have hblk := hv.own.blk_lt
  have HBL := hide hblk
  clear h hv hg hblk
  generalize (f key).getD Sl.nil = s at *
  simp only [Sl.val] at LK
  go_enter Try.func52, Try.ntmps52
  go_wp2_with (first
    | (at_builtin; refine wpList_append_sl rfl (.tmp 10) (.tmp 13) 110 rfl 113 i0 (.agg #[.int .i64 0, .int .i64 0, .int .i64 0, .bool false]) 4 32 Try.underlying110 hi hz0 hz1 hz2 rfl (by decide) s (verCells l) rfl HV.out (some ⟨w.heap.size, 0, none⟩) 1 1 [.int .i64 txn, .int .i64 0, .int .i64 0, .bool false] rfl rfl (fun h => by cases h) HP.out HO.out M1.out Q1.out ?_; intro s1 w1 ow1 sn1 ch1 bl1; have OW := hide ow1; have SN := hide sn1; have CH := hide ch1; have BL := hide bl1; clear ow1 sn1 ch1 bl1)
    | (at_mapUpdate; refine wpList_mapUpdate_i rfl (.tmp 6) (.tmp 7) (.tmp 14) 88 rfl 3 110 Try.underlying88' Try.underlying3' g f rfl (HM.out.chg CH.out (fun hk => HG.out _ hk rfl)) key s1 rfl rfl ?_; intro w2 hm2 ch2 sz2; have HM2 := hide hm2; have CH2 := hide ch2; clear hm2 ch2 sz2))
  go_end0
  have hs1g : ∀ k ∈ s1.blk, k ≠ g := fun k hk e => by
    rcases BL.out k hk with h | h
    · exact HG.out k h e
    · simp at h; omega
  refine ⟨rfl, s1, HM2.out, ⟨?_, by rw [SN.out, HN.out]; simp⟩, fun k hk => ?_, ?_⟩
  · have := OW.out.chg CH2.out (fun k hk => hs1g k hk)
    rw [verCells_append]
    exact this
  · rcases BL.out k hk with h | h
    · exact Or.inl h
    · right; simp at h; omega
  · exact (Chg.of_below HB.out _).trans ((CH.out.mono (fun k _ h => Or.inr h)).trans (CH2.out.mono (fun k _ h => Or.inl h)))

end Go.Proofs.Ytlheloogmgmjnaa
