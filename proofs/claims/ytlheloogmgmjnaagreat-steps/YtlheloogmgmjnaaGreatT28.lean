import Derived.Test.YtlheloogmgmjnaaGreatT25
import Derived.Test.YtlheloogmgmjnaaGreatT16
import Derived.Deep.CutRange
import Derived.Test.YtlheloogmgmjnaaGreatT23
import Derived.Test.YtlheloogmgmjnaaGreatT21
import Derived.Test.YtlheloogmgmjnaaGreatT10
namespace Go.Proofs.YtlheloogmgmjnaaGreat
open Go.RowKit

set_option maxHeartbeats 1000000 in
set_option maxRecDepth 100000 in
theorem pNew_no (p d r : Int) (w : World) (h : ¬ sizeOk p d r) :
    Calls Tryz.prog 38 #[.int .i64 p, .int .i64 d, .int .i64 r] w fun e w' => e = .returned (.tuple #[.pointer none, .int .i64 1]) ∧ w' = w := by
  unfold sizeOk at h
  go_enter Tryz.func38, Tryz.ntmps38
  go_wp2
  all_goals first
    | (exfalso; apply h; refine ⟨?_, ?_, ?_, ?_, ?_, ?_⟩ <;> (simp at *; omega))
    | (go_ret2; exact ⟨rfl, rfl⟩)
    | skip

def zeroMk (n : Nat) : List Value := (List.replicate n 0).flatMap fun (_ : Nat) => [.int .i64 0, .map none]
theorem zeroMk_succ (n : Nat) : zeroMk (n + 1) = .int .i64 0 :: .map none :: zeroMk n := by simp [zeroMk, List.replicate_succ]
theorem zeroMk_length (n : Nat) : (zeroMk n).length = n * 2 := by
  induction n with
  | zero => rfl
  | succ n ih => rw [zeroMk_succ]; simp [ih]; omega
theorem zeroMk_get (n : Nat) : ∀ i, i < n → (zeroMk n)[i * 2]? = some (.int .i64 0) ∧ (zeroMk n)[i * 2 + 1]? = some (.map none) := by
  induction n with
  | zero => intro i hi; omega
  | succ n ih =>
    intro i hi
    rw [zeroMk_succ]
    cases i with
    | zero => simp
    | succ i =>
      have := ih i (by omega)
      rw [show (i + 1) * 2 = i * 2 + 1 + 1 by omega]
      simpa using this

theorem made_mk (n : Nat) : (madeCells (Value.agg #[.int .i64 0, .map none]).cells (n * 2)).toList = zeroMk n := by
  apply List.ext_getElem?
  intro i
  by_cases hi : i < n * 2
  · obtain ⟨h0, h1⟩ := zeroMk_get n (i / 2) (by omega)
    by_cases h2 : i % 2 = 0
    · have e : i = i / 2 * 2 := by omega
      rw [← e] at h0
      rw [h0]
      simp [madeCells, Value.cells, hi, h2]
    · have h2 : i % 2 = 1 := by omega
      have e : i = i / 2 * 2 + 1 := by omega
      rw [← e] at h1
      rw [h1]
      simp [madeCells, Value.cells, hi, h2]
  · rw [List.getElem?_eq_none (by simp [madeCells]; omega), List.getElem?_eq_none (by rw [zeroMk_length]; omega)]

theorem Tryz.info126 : (Tryz.prog.info? 126).map (fun i => (i.zero, i.size, i.bytes)) = some (some (.agg #[.int .i64 0, .map none]), 2, 16) := by kernel_rfl
theorem Tryz.underlying95 : Tryz.prog.underlying 95 = some (.slice 126) := by kernel_rfl
theorem Tryz.underlying96 : Tryz.prog.underlying 96 = some (.slice 110) := by kernel_rfl

theorem rowAt_topc {w : World} {cs : List Value} {c : Array Value} {t : TypeId} {g : Nat} (hg : g = w.heap.size) (hc : c = cs.toArray) : RowAt (w.alloc (.cells c t)) g t cs := by
  subst hg hc; exact rowAt_alloc w cs t

theorem mkCells_length (l : List Nat) : (mkCells l).length = l.length * 2 := by
  induction l with
  | nil => rfl
  | cons x r ih => simp [mkCells] at ih ⊢; omega

/-- The k-th maker gets its map. -/
theorem mk_set (l : List Nat) (n g : Nat) : ((mkCells l ++ zeroMk (n + 1)).set (l.length * 2 + 1) (.map (some g))) = mkCells (l ++ [g]) ++ zeroMk n := by
  rw [zeroMk_succ, List.set_append_right _ _ (by rw [mkCells_length]; omega), mkCells_length, show l.length * 2 + 1 - l.length * 2 = 1 by omega]
  simp [mkCells]

/-- The makers that have a map. -/
structure NewLp (w wx : World) (gb gm : Nat) (ds : Sl) (p r : Nat) (mbs : List Nat) : Prop where
  row : RowAt wx gb 98 [.int .i64 r, .int .i64 0, .slice none 0 0, .slice none 0 0, .slice (some ⟨gm, 0, none⟩) p p, .slice ds.a ds.n ds.c, .int .i64 0]
  len : mbs.length ≤ p
  mkr : RowAt wx gm 126 (mkCells mbs ++ zeroMk (p - mbs.length))
  maps : ∀ g ∈ mbs, wx.heap[g]? = some (.map #[] 0) ∧ w.heap.size ≤ g ∧ g ≠ gb ∧ g ≠ gm
  ne : gb ≠ gm
  b0 : w.heap.size ≤ gb
  m0 : w.heap.size ≤ gm
  below : Below w.heap.size w wx

theorem NewLp.step {w wx : World} {gb gm : Nat} {ds : Sl} {p r : Nat} {mbs : List Nat} (h : NewLp w wx gb gm ds p r mbs) (hlt : mbs.length < p) :
    NewLp w ((wx.setCell ⟨gm, mbs.length * 2 + 1, none⟩ (.map (some wx.heap.size))).alloc (.map #[] 0)) gb gm ds p r (mbs ++ [wx.heap.size]) := by
  have hc : Chg wx ((wx.setCell ⟨gm, mbs.length * 2 + 1, none⟩ (.map (some wx.heap.size))).alloc (.map #[] 0)) (· = gm) := (Chg.setCell wx ⟨gm, mbs.length * 2 + 1, none⟩ _).trans (Chg.of_below (below_alloc1 _ _) _)
  have l1 := h.row.lt
  have l2 := h.mkr.lt
  have m0 := h.m0
  have b0 := h.b0
  refine ⟨h.row.chg hc h.ne, by simp; omega, ?_, ?_, h.ne, h.b0, h.m0, h.below.trans (hc.belowB (fun k hk => by omega) h.below.size)⟩
  · have := (h.mkr.set (mbs.length * 2 + 1) (.map (some wx.heap.size))).alloc (.map #[] 0)
    rw [show p - mbs.length = (p - (mbs.length + 1)) + 1 by omega, mk_set] at this
    simpa using this
  · intro g hg
    rcases List.mem_append.1 hg with hg | hg
    · obtain ⟨h1, h2, h3, h4⟩ := h.maps g hg
      exact ⟨by rw [hc.block g (blk_of_map h1) h4]; exact h1, h2, h3, h4⟩
    · obtain rfl := List.mem_singleton.1 hg
      have hne : wx.heap.size ≠ gm := by omega
      refine ⟨?_, h.below.size, by omega, hne⟩
      have e : (wx.setCell ⟨gm, mbs.length * 2 + 1, none⟩ (.map (some wx.heap.size))).heap.size = wx.heap.size := size_setCell_eq _ _ _
      have := heap_alloc_new (wx.setCell ⟨gm, mbs.length * 2 + 1, none⟩ (.map (some wx.heap.size))) (.map #[] 0)
      rw [e] at this
      exact this

theorem NewLp.done {w wx : World} {gb gm : Nat} {ds : Sl} {p r : Nat} {mbs : List Nat} (h : NewLp w wx gb gm ds p r mbs) (hlen : mbs.length = p) (h1 : 1 ≤ p) (h8 : p ≤ 8) (hr : r ≤ 500) :
    PAt wx ⟨gb, r, 0, [], Sl.nil, [], Sl.nil, mbs, ⟨some ⟨gm, 0, none⟩, p, p⟩, ds⟩ := by
  have hm := h.mkr
  rw [hlen, Nat.sub_self] at hm
  have e : mkCells mbs ++ zeroMk 0 = mkCells mbs := by simp [zeroMk]
  rw [e] at hm
  exact {
    row := h.row
    rc := Own.nil _ _ _
    rcn := rfl
    en := Own.nil _ _ _
    enn := rfl
    mkO := Own.of_row hm (by rw [mkCells_length, hlen]) (by unfold maxLen; omega)
    mkn := hlen.symm
    mk1 := by show 1 ≤ mbs.length; omega
    mk8 := by show mbs.length ≤ 8; omega
    maps := fun g hg => (h.maps g hg).1
    nodup := by simp [PM.mut, Sl.nil, Sl.blk]
    apart := by
      intro k hk hbad
      simp only [PM.imm, PM.mut, Sl.nil, Sl.blk, List.mem_append, List.mem_cons, List.not_mem_nil, or_false] at hk hbad
      rcases hk with hk | hk
      · have := h.ne; omega
      · have := (h.maps k hk).2.2.1; omega
    fresh := by intro r hr; simp at hr
    txns := by simp
    room500 := hr
    taken500 := Nat.zero_le _
    ends1 := by simp
    ends2 := by simp
    endsle := by intro e he; simp at he }

end Go.Proofs.YtlheloogmgmjnaaGreat

namespace Go.Proofs.YtlheloogmgmjnaaGreat
open Go.RowKit

/-- The program's store and the document's say the same, ahead of all steps. -/
structure Alike (M : PM) (R : RM) : Prop where
  room : M.room = R.room
  taken : M.taken = R.used
  txns : M.recs.length = R.tasks.length
  ends : M.ends = R.ends
  still : ∀ t ∈ R.tasks, t.ended = false ∧ t.gone = List.replicate t.tx.w.length false
  dealt : ∀ d ∈ R.dealt, d = 0
  pos : ∀ e ∈ R.ends, 1 ≤ e

theorem Alike.closed {M : PM} {R : RM} (h : Alike M R) : M.closed = R.closed := by unfold PM.closed RM.closed; rw [h.ends]

theorem stay_false (n : Nat) : stay (List.replicate n false) = n := by
  unfold stay
  induction n with
  | zero => rfl
  | succ n ih => rw [List.replicate_succ, List.countP_cons, ih]; rfl

theorem RM.done_zero {R : RM} (h : ∀ t ∈ R.tasks, t.ended = false) : R.done = 0 := by
  unfold RM.done
  cases hq : R.tasks with
  | nil => rfl
  | cons t r =>
    have := h t (by rw [hq]; simp)
    simp [this]

theorem markOf_zero (l : List Nat) (h : ∀ e ∈ l, 1 ≤ e) : markOf 0 l = 0 := by
  unfold markOf
  have : ∀ (l : List Nat) (a : Nat), (∀ e ∈ l, 1 ≤ e) → List.foldl (fun m e => if e ≤ 0 then e else m) a l = a := by
    intro l
    induction l with
    | nil => intro a _; rfl
    | cons x r ih =>
      intro a hl
      have hx := hl x (by simp)
      rw [List.foldl_cons, if_neg (by omega)]
      exact ih a (fun e he => hl e (by simp [he]))
  exact this l 0 h

theorem Alike.state {M : PM} {R : RM} (h : Alike M R) (hp : 1 ≤ R.dealt.length) : R.state = stCells M.recs.length M.ends.length 0 0 0 M.taken 0 := by
  have hd : R.done = 0 := RM.done_zero (fun t ht => (h.still t ht).1)
  have hr : R.ready = 0 := by
    unfold RM.ready
    rw [List.countP_eq_zero]
    intro e he hbad
    rw [List.all_eq_true] at hbad
    have h0 : R.dealt[0] ∈ R.dealt := List.getElem_mem (by omega)
    have := hbad _ h0
    have h1 := h.dealt _ h0
    have h2 := h.pos e he
    simp at this
    omega
  have hm : R.mark = 0 := by unfold RM.mark; rw [hd]; exact markOf_zero _ h.pos
  have hl : R.live = 0 := by
    unfold RM.live
    have : ∀ key, R.liveOf key = 0 := by
      intro key
      unfold RM.liveOf
      have : R.dealt.getD (key % R.parts) 0 = 0 := by
        by_cases hk : key % R.parts < R.dealt.length
        · rw [nat_get hk]; exact h.dealt _ (List.getElem_mem hk)
        · simp [List.getD, List.getElem?_eq_none (show R.dealt.length ≤ key % R.parts by omega)]
      rw [this]; rfl
    rw [List.map_congr_left (fun k _ => this k)]
    rfl
  unfold RM.state stCells
  rw [hr, hd, hm, hl, h.txns, h.ends, h.taken]

theorem used_withTask (R : RM) (T : Tsk) (hv : List Slot) (s : Sl) (n : Nat) (h : T.gone = List.replicate n false) : (R.withTask T hv s).used = R.used + n := by
  unfold RM.used RM.withTask
  simp [h, stay_false]

/-- Both stores lie in memory, apart, made behind w0; x: the pair. -/
structure Two (w0 w : World) (x : Nat) (M : PM) (R : RM) : Prop where
  pair : RowAt w x 29 [.pointer (some ⟨M.b, 0, none⟩), .pointer (some ⟨R.b, 0, none⟩)]
  p : PAt w M
  r : RefAt w R
  apart : ∀ k ∈ M.foot, k ∉ R.foot
  xm : x ∉ M.foot
  xr : x ∉ R.foot
  m0 : ∀ k ∈ M.foot, w0.heap.size ≤ k
  r0 : ∀ k ∈ R.foot, w0.heap.size ≤ k
  x0 : w0.heap.size ≤ x
  below : Below w0.heap.size w0 w

theorem RefAt.foot_lt {w : World} {R : RM} (h : RefAt w R) : ∀ k ∈ R.foot, k < w.heap.size := by
  intro k hk
  simp only [RM.foot, List.mem_append] at hk
  rcases hk with hk | hk
  · exact h.mut_lt k hk
  · exact h.immlt k hk

/-- Only other memory has turned. -/
theorem Two.chg {w0 w w' : World} {x : Nat} {M : PM} {R : RM} (h : Two w0 w x M R) {D : Nat → Prop} (hc : Chg w w' D) (hD : ∀ k, D k → w0.heap.size ≤ k ∧ k ≠ x ∧ k ∉ M.foot ∧ k ∉ R.foot) : Two w0 w' x M R := by
  have hs := h.below.size
  exact { h with
    pair := h.pair.chg hc (fun hd => (hD x hd).2.1 rfl)
    p := h.p.chg hc (fun k hk hd => (hD k hd).2.2.1 hk)
    r := h.r.chg hc (fun k hk hd => (hD k hd).2.2.2 (by simp [RM.foot, hk])) (fun k hk hd => (hD k hd).2.2.2 (by simp [RM.foot, hk]))
    below := h.below.trans (hc.belowB (fun k hk => (hD k hk).1) hs) }

theorem Two.on {w0 w w' : World} {x : Nat} {M : PM} {R : RM} (h : Two w0 w x M R) (hb : Below w.heap.size w w') : Two w0 w' x M R := h.chg (Chg.of_below hb (fun _ => False)) (fun _ hk => hk.elim)

/-- New blocks are none of theirs. -/
theorem Two.far {w0 w : World} {x : Nat} {M : PM} {R : RM} (h : Two w0 w x M R) {k : Nat} (hk : w.heap.size ≤ k) : w0.heap.size ≤ k ∧ k ≠ x ∧ k ∉ M.foot ∧ k ∉ R.foot :=
  ⟨Nat.le_trans h.below.size hk, by have := h.pair.lt; omega, fun hm => by have := h.p.foot_lt k hm; omega, fun hr => by have := h.r.foot_lt k hr; omega⟩

/-- The program's store has turned. -/
theorem Two.prog {w0 w w' : World} {x : Nat} {M M' : PM} {R : RM} (h : Two w0 w x M R) (hp : PAt w' M') (hb : M'.b = M.b) (hc : Chg w w' (fun k => k ∈ M.mut)) (hf : ∀ k ∈ M'.foot, k ∈ M.foot ∨ w.heap.size ≤ k) : Two w0 w' x M' R := by
  have hs := h.below.size
  have hmf : ∀ k ∈ M.mut, k ∈ M.foot := fun k hk => by simp [PM.foot, hk]
  refine ⟨by rw [hb]; exact h.pair.chg hc (fun hk => h.xm (hmf _ hk)), hp, h.r.chg hc (fun k hk hd => h.apart k (hmf k hd) (by simp [RM.foot, hk])) (fun k hk hd => h.apart k (hmf k hd) (by simp [RM.foot, hk])), ?_, ?_, h.xr, ?_, h.r0, h.x0, h.below.trans (hc.belowB (fun k hk => h.m0 k (hmf k hk)) hs)⟩
  · intro k hk hr
    rcases hf k hk with h1 | h1
    · exact h.apart k h1 hr
    · have := h.r.foot_lt k hr; omega
  · intro hk
    rcases hf x hk with h1 | h1
    · exact h.xm h1
    · have := h.pair.lt; omega
  · intro k hk
    rcases hf k hk with h1 | h1
    · exact h.m0 k h1
    · omega

/-- The document's store has turned. -/
theorem Two.ref {w0 w w' : World} {x : Nat} {M : PM} {R R' : RM} (h : Two w0 w x M R) (hr : RefAt w' R') (hb : R'.b = R.b) (hc : Chg w w' (fun k => k ∈ R.mut)) (hf : ∀ k ∈ R'.foot, k ∈ R.foot ∨ w.heap.size ≤ k) : Two w0 w' x M R' := by
  have hs := h.below.size
  have hmf : ∀ k ∈ R.mut, k ∈ R.foot := fun k hk => by simp [RM.foot, hk]
  refine ⟨by rw [hb]; exact h.pair.chg hc (fun hk => h.xr (hmf _ hk)), h.p.chg hc (fun k hk hd => h.apart k hk (hmf k hd)), hr, ?_, h.xm, ?_, h.m0, ?_, h.x0, h.below.trans (hc.belowB (fun k hk => h.r0 k (hmf k hk)) hs)⟩
  · intro k hk hr'
    rcases hf k hr' with h1 | h1
    · exact h.apart k hk h1
    · have := h.p.foot_lt k hk; omega
  · intro hk
    rcases hf x hk with h1 | h1
    · exact h.xr h1
    · have := h.pair.lt; omega
  · intro k hk
    rcases hf k hk with h1 | h1
    · exact h.r0 k h1
    · omega

end Go.Proofs.YtlheloogmgmjnaaGreat

namespace Go.Proofs.YtlheloogmgmjnaaGreat
open Go.RowKit

def RM.refusal (R : RM) (t : Tx) : Int := if checkN t ≠ 0 then checkN t else if 150 ≤ R.tasks.length then 6 else if R.room < R.used + t.w.length then 7 else 0
theorem Alike.refusal {M : PM} {R : RM} (h : Alike M R) (t : Tx) : M.refusal t = R.refusal t := by unfold PM.refusal RM.refusal; rw [h.txns, h.room, h.taken]

def subN (n : Nat) (e : Int) : Int := if e = 0 then (n + 1 : Nat) else 0

end Go.Proofs.YtlheloogmgmjnaaGreat
