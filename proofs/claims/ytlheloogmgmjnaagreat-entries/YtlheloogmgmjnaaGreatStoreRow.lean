import Derived.Test.YtlheloogmgmjnaaGreatChg
namespace Go.Proofs.YtlheloogmgmjnaaGreat
open Go.RowKit

/-- A value of as many cells as a whole block goes over that block. -/
theorem run_storeVar_row {P : Program} (w : World) (g : Nat) (ty t : TypeId) (v : Value) (cs cur : List Value) (hg : RowAt w g t cur) (hv : v.cells = cs.toArray) (hl : cs.length = cur.length)
    (hi : (P.info? ty).map (·.size) = some cs.length) (h1 : ∀ v ∈ cs, v.oneCell' = true) :
    (storeVar ty ⟨g, 0, none⟩ v).run P w = .ok () (w.setRow g cs.toArray) := by
  have hst := run_storeCells_at P g 0 t cs 0 cur.toArray w hg (by simp [hl]) h1
  have e : (cur.toArray.toList.take (0 + 0) ++ cs ++ cur.toArray.toList.drop (0 + 0 + cs.length)) = cs := by simp [hl]
  rw [e] at hst
  cases hq : P.info? ty with
  | none => simp [hq] at hi
  | some i =>
    have hi' : i.size = cs.length := by simpa [hq] using hi
    simp [storeVar, sizeOf, typeInfo, hq, hv, hi', hst]

theorem size_setRow (w : World) (g : Nat) (cs : Array Value) : (w.setRow g cs).heap.size = w.heap.size := by simp [World.setRow]
theorem chg_setRow (w : World) (g : Nat) (cs : Array Value) : Chg w (w.setRow g cs) (· = g) :=
  have h : Below 0 w (w.setRow g cs) := below_setRow (Below.refl _ _) (Nat.zero_le _) cs
  ⟨h.os, h.tape, h.output, by rw [size_setRow]; exact Nat.le_refl _, fun k _ hk => by simp [World.setRow, Array.getElem?_modify, Ne.symm hk]⟩

/-- The store of a whole row, in a region: the world behind it is a letter. -/
theorem wp_store_row {P : Program} {op : Oper} {a : Act} {w : World} {K : Act → World → Prop} {Q : Exit → Act → World → Prop} (ty : TypeId) (x y : Operand) (ho : op.op = .store ty x y)
    (g : Nat) (hx : a.eval x = .pointer (some ⟨g, 0, none⟩)) (cs cur : List Value) (t : TypeId) (hg : RowAt w g t cur) (hy : (a.eval y).cells = cs.toArray) (hl : cs.length = cur.length)
    (hi : (P.info? ty).map (·.size) = some cs.length) (h1 : ∀ v ∈ cs, v.oneCell' = true)
    (h : ∀ w', RowAt w' g t cs → Chg w w' (· = g) → w'.heap.size = w.heap.size → K (a.put op.dst undef) w') : op.wp P a w K Q := by
  unfold Oper.wp execOp
  simp only [ho, hx, Instr.storeAt, Instr.sureAddr, Sem.run_bind, Sem.run_pure, Result.andThen_ok, run_storeVar_row w g ty t _ cs cur hg hy hl hi h1]
  refine h _ ?_ (chg_setRow w g _) (size_setRow w g _)
  exact setRow_heap w g cur.toArray cs.toArray t (0, 0) hg

/-- A new variable, in a region: the world behind it is a letter. -/
theorem wp_alloc_row {P : Program} {op : Oper} {a : Act} {w : World} {K : Act → World → Prop} {Q : Exit → Act → World → Prop} (ty : TypeId) (ho : op.op = .alloc ty) (z : Value) (zs : List Value)
    (hz : (P.info? ty).bind (·.zero) = some z) (hc : z.cells = zs.toArray)
    (h : ∀ w', RowAt w' w.heap.size ty zs → Below w.heap.size w w' → w'.heap.size = w.heap.size + 1 → K (a.put op.dst (.pointer (some ⟨w.heap.size, 0, none⟩))) w') : op.wp P a w K Q := by
  obtain ⟨i, hi, hiz⟩ := Option.bind_eq_some_iff.1 hz
  have hrun : (execOp a.eval op).run P w = .ok (.value (.pointer (some ⟨w.heap.size, 0, none⟩))) (w.alloc (.cells zs.toArray ty)) := by
    unfold execOp
    simp [ho, Instr.alloc, zeroValue, typeInfo, hi, hiz, newVar, newRow, hc]
  unfold Oper.wp
  rw [hrun]
  exact h _ (rowAt_alloc w zs ty) (below_alloc1 _ _) (by simp)

/-- A new slice, in a region. -/
theorem wp_make_row {P : Program} {op : Oper} {a : Act} {w : World} {K : Act → World → Prop} {Q : Exit → Act → World → Prop} (t : TypeId) (l c : Operand) (ho : op.op = .makeSlice t l c)
    (kl kc : IntKind) (n : Nat) (hl : a.eval l = .int kl n) (hc : a.eval c = .int kc n) (e : TypeId) (zs : List Value)
    (hrun : (Instr.makeSlice t (.int kl (n : Int)) (.int kc (n : Int))).run P w = .ok (.slice (some ⟨w.heap.size, 0, none⟩) n n) (w.alloc (.cells zs.toArray e)))
    (h : ∀ w', RowAt w' w.heap.size e zs → Below w.heap.size w w' → w'.heap.size = w.heap.size + 1 → K (a.put op.dst (.slice (some ⟨w.heap.size, 0, none⟩) n n)) w') : op.wp P a w K Q := by
  have hrun : (execOp a.eval op).run P w = .ok (.value (.slice (some ⟨w.heap.size, 0, none⟩) n n)) (w.alloc (.cells zs.toArray e)) := by
    unfold execOp
    simp [ho, hl, hc, hrun]
  unfold Oper.wp
  rw [hrun]
  exact h _ (rowAt_alloc w zs e) (below_alloc1 _ _) (by simp)

end Go.Proofs.YtlheloogmgmjnaaGreat
