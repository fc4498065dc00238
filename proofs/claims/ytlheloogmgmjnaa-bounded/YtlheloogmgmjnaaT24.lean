import Derived.Test.YtlheloogmgmjnaaT21
import Derived.Test.YtlheloogmgmjnaaT12
import Derived.Deep.CutRange
import Derived.Test.YtlheloogmgmjnaaT19
import Derived.Test.YtlheloogmgmjnaaT17
import Derived.Test.YtlheloogmgmjnaaT06
import Derived.Test.YtlheloogmgmjnaaT05
import Derived.Deep.RegionHeld
import Derived.Deep.DeepMust
namespace Go.Proofs.Ytlheloogmgmjnaa
open Go.RowKit

def zeroMk (n : Nat) : List Value := (List.replicate n 0).flatMap fun (_ : Nat) => [.int .i64 0, .map none]
theorem zeroMk_succ (n : Nat) : zeroMk (n + 1) = .int .i64 0 :: .map none :: zeroMk n := by simp [zeroMk, List.replicate_succ]
theorem zeroMk_length (n : Nat) : (zeroMk n).length = n * 2 := by
  induction n with
  | zero => rfl
  | succ n ih => rw [zeroMk_succ]; simp [ih]; omega
theorem zeroMk_get (n : Nat) : ∀ i, i < n → (zeroMk n)[i * 2]? = some (.int .i64 0) ∧ (zeroMk n)[i * 2 + 1]? = some (.map none) := by
  induction n with
  | zero => intro i hi; omega
  | succ n ih =>
    intro i hi
    rw [zeroMk_succ]
    cases i with
    | zero => simp
    | succ i =>
      have := ih i (by omega)
      rw [show (i + 1) * 2 = i * 2 + 1 + 1 by omega]
      simpa using this

theorem made_mk (n : Nat) : (madeCells (Value.agg #[.int .i64 0, .map none]).cells (n * 2)).toList = zeroMk n := by
  apply List.ext_getElem?
  intro i
  by_cases hi : i < n * 2
  · obtain ⟨h0, h1⟩ := zeroMk_get n (i / 2) (by omega)
    by_cases h2 : i % 2 = 0
    · have e : i = i / 2 * 2 := by omega
      rw [← e] at h0
      rw [h0]
      simp [madeCells, Value.cells, hi, h2]
    · have h2 : i % 2 = 1 := by omega
      have e : i = i / 2 * 2 + 1 := by omega
      rw [← e] at h1
      rw [h1]
      simp [madeCells, Value.cells, hi, h2]
  · rw [List.getElem?_eq_none (by simp [madeCells]; omega), List.getElem?_eq_none (by rw [zeroMk_length]; omega)]

theorem Try.info90 : (Try.prog.info? 90).map (fun i => (i.zero, i.size, i.bytes)) = some (some (.agg #[.int .i64 0, .map none]), 2, 16) := by kernel_rfl
theorem Try.underlying61 : Try.prog.underlying 61 = some (.slice 90) := by kernel_rfl
theorem Try.underlying62 : Try.prog.underlying 62 = some (.slice 76) := by kernel_rfl

theorem rowAt_topc {w : World} {cs : List Value} {c : Array Value} {t : TypeId} {g : Nat} (hg : g = w.heap.size) (hc : c = cs.toArray) : RowAt (w.alloc (.cells c t)) g t cs := by
  subst hg hc; exact rowAt_alloc w cs t

theorem mkCells_length (l : List Nat) : (mkCells l).length = l.length * 2 := by
  induction l with
  | nil => rfl
  | cons x r ih => simp [mkCells] at ih ⊢; omega

/-- The k-th maker gets its map. -/
theorem mk_set (l : List Nat) (n g : Nat) : ((mkCells l ++ zeroMk (n + 1)).set (l.length * 2 + 1) (.map (some g))) = mkCells (l ++ [g]) ++ zeroMk n := by
  rw [zeroMk_succ, List.set_append_right _ _ (by rw [mkCells_length]; omega), mkCells_length, show l.length * 2 + 1 - l.length * 2 = 1 by omega]
  simp [mkCells]

/-- The makers that have a map. -/
structure NewLp (w wx : World) (gb gm : Nat) (ds : Sl) (p r : Nat) (mbs : List Nat) : Prop where
  row : RowAt wx gb 64 [.int .i64 r, .int .i64 0, .slice none 0 0, .slice none 0 0, .slice (some ⟨gm, 0, none⟩) p p, .slice ds.a ds.n ds.c, .int .i64 0]
  len : mbs.length ≤ p
  mkr : RowAt wx gm 90 (mkCells mbs ++ zeroMk (p - mbs.length))
  maps : ∀ g ∈ mbs, wx.heap[g]? = some (.map #[] 0) ∧ w.heap.size ≤ g ∧ g ≠ gb ∧ g ≠ gm
  ne : gb ≠ gm
  b0 : w.heap.size ≤ gb
  m0 : w.heap.size ≤ gm
  below : Below w.heap.size w wx

theorem NewLp.step {w wx : World} {gb gm : Nat} {ds : Sl} {p r : Nat} {mbs : List Nat} (h : NewLp w wx gb gm ds p r mbs) (hlt : mbs.length < p) :
    NewLp w ((wx.setCell ⟨gm, mbs.length * 2 + 1, none⟩ (.map (some wx.heap.size))).alloc (.map #[] 0)) gb gm ds p r (mbs ++ [wx.heap.size]) := by
  have hc : Chg wx ((wx.setCell ⟨gm, mbs.length * 2 + 1, none⟩ (.map (some wx.heap.size))).alloc (.map #[] 0)) (· = gm) := (Chg.setCell wx ⟨gm, mbs.length * 2 + 1, none⟩ _).trans (Chg.of_below (below_alloc1 _ _) _)
  have l1 := h.row.lt
  have l2 := h.mkr.lt
  have m0 := h.m0
  have b0 := h.b0
  refine ⟨h.row.chg hc h.ne, by simp; omega, ?_, ?_, h.ne, h.b0, h.m0, h.below.trans (hc.belowB (fun k hk => by omega) h.below.size)⟩
  · have := (h.mkr.set (mbs.length * 2 + 1) (.map (some wx.heap.size))).alloc (.map #[] 0)
    rw [show p - mbs.length = (p - (mbs.length + 1)) + 1 by omega, mk_set] at this
    simpa using this
  · intro g hg
    rcases List.mem_append.1 hg with hg | hg
    · obtain ⟨h1, h2, h3, h4⟩ := h.maps g hg
      exact ⟨by rw [hc.block g (blk_of_map h1) h4]; exact h1, h2, h3, h4⟩
    · obtain rfl := List.mem_singleton.1 hg
      have hne : wx.heap.size ≠ gm := by omega
      refine ⟨?_, h.below.size, by omega, hne⟩
      have e : (wx.setCell ⟨gm, mbs.length * 2 + 1, none⟩ (.map (some wx.heap.size))).heap.size = wx.heap.size := size_setCell_eq _ _ _
      have := heap_alloc_new (wx.setCell ⟨gm, mbs.length * 2 + 1, none⟩ (.map (some wx.heap.size))) (.map #[] 0)
      rw [e] at this
      exact this

theorem NewLp.done {w wx : World} {gb gm : Nat} {ds : Sl} {p r : Nat} {mbs : List Nat} (h : NewLp w wx gb gm ds p r mbs) (hlen : mbs.length = p) (h1 : 1 ≤ p) (h8 : p ≤ 8) (hr : r ≤ 500) :
    PAt wx ⟨gb, r, 0, [], Sl.nil, [], Sl.nil, mbs, ⟨some ⟨gm, 0, none⟩, p, p⟩, ds⟩ := by
  have hm := h.mkr
  rw [hlen, Nat.sub_self] at hm
  have e : mkCells mbs ++ zeroMk 0 = mkCells mbs := by simp [zeroMk]
  rw [e] at hm
  exact {
    row := h.row
    rc := Own.nil _ _ _
    rcn := rfl
    en := Own.nil _ _ _
    enn := rfl
    mkO := Own.of_row hm (by rw [mkCells_length, hlen]) (by unfold maxLen; omega)
    mkn := hlen.symm
    mk1 := by show 1 ≤ mbs.length; omega
    mk8 := by show mbs.length ≤ 8; omega
    maps := fun g hg => (h.maps g hg).1
    nodup := by simp [PM.mut, Sl.nil, Sl.blk]
    apart := by
      intro k hk hbad
      simp only [PM.imm, PM.mut, Sl.nil, Sl.blk, List.mem_append, List.mem_cons, List.not_mem_nil, or_false] at hk hbad
      rcases hk with hk | hk
      · have := h.ne; omega
      · have := (h.maps k hk).2.2.1; omega
    fresh := by intro r hr; simp at hr
    txns := by simp
    room500 := hr
    taken500 := Nat.zero_le _
    ends1 := by simp
    ends2 := by simp
    endsle := by intro e he; simp at he }

end Go.Proofs.Ytlheloogmgmjnaa

namespace Go.Proofs.Ytlheloogmgmjnaa
open Go.RowKit

/-- The program's store and the document's say the same, ahead of all steps. -/
structure Alike (M : PM) (R : RM) : Prop where
  room : M.room = R.room
  taken : M.taken = R.used
  txns : M.recs.length = R.tasks.length
  ends : M.ends = R.ends
  still : ∀ t ∈ R.tasks, t.ended = false ∧ t.gone = List.replicate t.tx.w.length false
  dealt : ∀ d ∈ R.dealt, d = 0
  pos : ∀ e ∈ R.ends, 1 ≤ e

theorem Alike.closed {M : PM} {R : RM} (h : Alike M R) : M.closed = R.closed := by unfold PM.closed RM.closed; rw [h.ends]

end Go.Proofs.Ytlheloogmgmjnaa

namespace Go.Proofs.Ytlheloogmgmjnaa
open Go.RowKit

def RM.refusal (R : RM) (t : Tx) : Int := if checkN t ≠ 0 then checkN t else if 150 ≤ R.tasks.length then 6 else if R.room < R.used + t.w.length then 7 else 0
theorem Alike.refusal {M : PM} {R : RM} (h : Alike M R) (t : Tx) : M.refusal t = R.refusal t := by unfold PM.refusal RM.refusal; rw [h.txns, h.room, h.taken]

end Go.Proofs.Ytlheloogmgmjnaa
