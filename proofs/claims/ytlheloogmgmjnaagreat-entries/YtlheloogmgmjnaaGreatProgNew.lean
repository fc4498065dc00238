import Derived.Test.YtlheloogmgmjnaaGreatProgSub2
import Derived.Test.YtlheloogmgmjnaaGreatRefNew
import Derived.Deep.CutRange
namespace Go.Proofs.YtlheloogmgmjnaaGreat
open Go.RowKit

set_option maxHeartbeats 1000000 in
set_option maxRecDepth 100000 in
theorem pNew_no (p d r : Int) (w : World) (h : ¬ sizeOk p d r) :
    Calls Tryz.prog 38 #[.int .i64 p, .int .i64 d, .int .i64 r] w fun e w' => e = .returned (.tuple #[.pointer none, .int .i64 1]) ∧ w' = w := by
  unfold sizeOk at h
  go_enter Tryz.func38, Tryz.ntmps38
  go_wp2
  all_goals first
    | (exfalso; apply h; refine ⟨?_, ?_, ?_, ?_, ?_, ?_⟩ <;> (simp at *; omega))
    | (go_ret2; exact ⟨rfl, rfl⟩)
    | skip

def zeroMk (n : Nat) : List Value := (List.replicate n 0).flatMap fun (_ : Nat) => [.int .i64 0, .map none]
theorem zeroMk_succ (n : Nat) : zeroMk (n + 1) = .int .i64 0 :: .map none :: zeroMk n := by simp [zeroMk, List.replicate_succ]
theorem zeroMk_length (n : Nat) : (zeroMk n).length = n * 2 := by
  induction n with
  | zero => rfl
  | succ n ih => rw [zeroMk_succ]; simp [ih]; omega
theorem zeroMk_get (n : Nat) : ∀ i, i < n → (zeroMk n)[i * 2]? = some (.int .i64 0) ∧ (zeroMk n)[i * 2 + 1]? = some (.map none) := by
  induction n with
  | zero => intro i hi; omega
  | succ n ih =>
    intro i hi
    rw [zeroMk_succ]
    cases i with
    | zero => simp
    | succ i =>
      have := ih i (by omega)
      rw [show (i + 1) * 2 = i * 2 + 1 + 1 by omega]
      simpa using this

theorem made_mk (n : Nat) : (madeCells (Value.agg #[.int .i64 0, .map none]).cells (n * 2)).toList = zeroMk n := by
  apply List.ext_getElem?
  intro i
  by_cases hi : i < n * 2
  · obtain ⟨h0, h1⟩ := zeroMk_get n (i / 2) (by omega)
    by_cases h2 : i % 2 = 0
    · have e : i = i / 2 * 2 := by omega
      rw [← e] at h0
      rw [h0]
      simp [madeCells, Value.cells, hi, h2]
    · have h2 : i % 2 = 1 := by omega
      have e : i = i / 2 * 2 + 1 := by omega
      rw [← e] at h1
      rw [h1]
      simp [madeCells, Value.cells, hi, h2]
  · rw [List.getElem?_eq_none (by simp [madeCells]; omega), List.getElem?_eq_none (by rw [zeroMk_length]; omega)]

theorem Tryz.info126 : (Tryz.prog.info? 126).map (fun i => (i.zero, i.size, i.bytes)) = some (some (.agg #[.int .i64 0, .map none]), 2, 16) := by kernel_rfl
theorem Tryz.underlying95 : Tryz.prog.underlying 95 = some (.slice 126) := by kernel_rfl
theorem Tryz.underlying96 : Tryz.prog.underlying 96 = some (.slice 110) := by kernel_rfl

/-- What a doer is at first: of it only the size is asked. -/
theorem doer_info : ∃ (i : TypeInfo) (z : Value), Tryz.prog.info? 110 = some i ∧ i.zero = some z ∧ i.bytes ≤ 1000 := by
  have h : ((Tryz.prog.info? 110).map (fun i => (i.zero.isSome, decide (i.bytes ≤ 1000)))) = some (true, true) := by kernel_rfl
  cases hq : Tryz.prog.info? 110 with
  | none => rw [hq] at h; cases h
  | some i =>
    rw [hq] at h
    simp at h
    obtain ⟨z, hz⟩ := Option.isSome_iff_exists.1 h.1
    exact ⟨i, z, rfl, hz, h.2⟩

/-- The struct, the makers' row: as New's region leaves them. -/
structure NewAt (w wx : World) (gb gm : Nat) (ds : Sl) (p r : Nat) : Prop where
  row : RowAt wx gb 98 [.int .i64 r, .int .i64 0, .slice none 0 0, .slice none 0 0, .slice (some ⟨gm, 0, none⟩) p p, .slice ds.a ds.n ds.c, .int .i64 0]
  mkr : RowAt wx gm 126 (zeroMk p)
  ne : gb ≠ gm
  b0 : w.heap.size ≤ gb
  m0 : w.heap.size ≤ gm
  below : Below w.heap.size w wx

theorem rowAt_topc {w : World} {cs : List Value} {c : Array Value} {t : TypeId} {g : Nat} (hg : g = w.heap.size) (hc : c = cs.toArray) : RowAt (w.alloc (.cells c t)) g t cs := by
  subst hg hc; exact rowAt_alloc w cs t

theorem mkCells_length (l : List Nat) : (mkCells l).length = l.length * 2 := by
  induction l with
  | nil => rfl
  | cons x r ih => simp [mkCells] at ih ⊢; omega

/-- The k-th maker gets its map. -/
theorem mk_set (l : List Nat) (n g : Nat) : ((mkCells l ++ zeroMk (n + 1)).set (l.length * 2 + 1) (.map (some g))) = mkCells (l ++ [g]) ++ zeroMk n := by
  rw [zeroMk_succ, List.set_append_right _ _ (by rw [mkCells_length]; omega), mkCells_length, show l.length * 2 + 1 - l.length * 2 = 1 by omega]
  simp [mkCells]

/-- The makers that have a map. -/
structure NewLp (w wx : World) (gb gm : Nat) (ds : Sl) (p r : Nat) (mbs : List Nat) : Prop where
  row : RowAt wx gb 98 [.int .i64 r, .int .i64 0, .slice none 0 0, .slice none 0 0, .slice (some ⟨gm, 0, none⟩) p p, .slice ds.a ds.n ds.c, .int .i64 0]
  len : mbs.length ≤ p
  mkr : RowAt wx gm 126 (mkCells mbs ++ zeroMk (p - mbs.length))
  maps : ∀ g ∈ mbs, wx.heap[g]? = some (.map #[] 0) ∧ w.heap.size ≤ g ∧ g ≠ gb ∧ g ≠ gm
  ne : gb ≠ gm
  b0 : w.heap.size ≤ gb
  m0 : w.heap.size ≤ gm
  below : Below w.heap.size w wx

theorem NewLp.step {w wx : World} {gb gm : Nat} {ds : Sl} {p r : Nat} {mbs : List Nat} (h : NewLp w wx gb gm ds p r mbs) (hlt : mbs.length < p) :
    NewLp w ((wx.setCell ⟨gm, mbs.length * 2 + 1, none⟩ (.map (some wx.heap.size))).alloc (.map #[] 0)) gb gm ds p r (mbs ++ [wx.heap.size]) := by
  have hc : Chg wx ((wx.setCell ⟨gm, mbs.length * 2 + 1, none⟩ (.map (some wx.heap.size))).alloc (.map #[] 0)) (· = gm) := (Chg.setCell wx ⟨gm, mbs.length * 2 + 1, none⟩ _).trans (Chg.of_below (below_alloc1 _ _) _)
  have l1 := h.row.lt
  have l2 := h.mkr.lt
  have m0 := h.m0
  have b0 := h.b0
  refine ⟨h.row.chg hc h.ne, by simp; omega, ?_, ?_, h.ne, h.b0, h.m0, h.below.trans (hc.belowB (fun k hk => by omega) h.below.size)⟩
  · have := (h.mkr.set (mbs.length * 2 + 1) (.map (some wx.heap.size))).alloc (.map #[] 0)
    rw [show p - mbs.length = (p - (mbs.length + 1)) + 1 by omega, mk_set] at this
    simpa using this
  · intro g hg
    rcases List.mem_append.1 hg with hg | hg
    · obtain ⟨h1, h2, h3, h4⟩ := h.maps g hg
      exact ⟨by rw [hc.block g (blk_of_map h1) h4]; exact h1, h2, h3, h4⟩
    · obtain rfl := List.mem_singleton.1 hg
      have hne : wx.heap.size ≠ gm := by omega
      refine ⟨?_, h.below.size, by omega, hne⟩
      have e : (wx.setCell ⟨gm, mbs.length * 2 + 1, none⟩ (.map (some wx.heap.size))).heap.size = wx.heap.size := size_setCell_eq _ _ _
      have := heap_alloc_new (wx.setCell ⟨gm, mbs.length * 2 + 1, none⟩ (.map (some wx.heap.size))) (.map #[] 0)
      rw [e] at this
      exact this

theorem NewLp.done {w wx : World} {gb gm : Nat} {ds : Sl} {p r : Nat} {mbs : List Nat} (h : NewLp w wx gb gm ds p r mbs) (hlen : mbs.length = p) (h1 : 1 ≤ p) (h8 : p ≤ 8) (hr : r ≤ 500) :
    PAt wx ⟨gb, r, 0, [], Sl.nil, [], Sl.nil, mbs, ⟨some ⟨gm, 0, none⟩, p, p⟩, ds⟩ := by
  have hm := h.mkr
  rw [hlen, Nat.sub_self] at hm
  have e : mkCells mbs ++ zeroMk 0 = mkCells mbs := by simp [zeroMk]
  rw [e] at hm
  exact {
    row := h.row
    rc := Own.nil _ _ _
    rcn := rfl
    en := Own.nil _ _ _
    enn := rfl
    mkO := Own.of_row hm (by rw [mkCells_length, hlen]) (by unfold maxLen; omega)
    mkn := hlen.symm
    mk1 := by show 1 ≤ mbs.length; omega
    mk8 := by show mbs.length ≤ 8; omega
    maps := fun g hg => (h.maps g hg).1
    nodup := by simp [PM.mut, Sl.nil, Sl.blk]
    apart := by
      intro k hk hbad
      simp only [PM.imm, PM.mut, Sl.nil, Sl.blk, List.mem_append, List.mem_cons, List.not_mem_nil, or_false] at hk hbad
      rcases hk with hk | hk
      · have := h.ne; omega
      · have := (h.maps k hk).2.2.1; omega
    fresh := by intro r hr; simp at hr
    txns := by simp
    room500 := hr
    taken500 := Nat.zero_le _
    ends1 := by simp
    ends2 := by simp
    endsle := by intro e he; simp at he }

set_option maxHeartbeats 2000000 in
set_option maxRecDepth 100000 in
theorem pNew_yes (p d r : Nat) (w : World) (h : sizeOk p d r) :
    Calls Tryz.prog 38 #[.int .i64 p, .int .i64 d, .int .i64 r] w fun e w' => ∃ b gm mbs ds, e = .returned (.tuple #[.pointer (some ⟨b, 0, none⟩), .int .i64 0]) ∧ mbs.length = p ∧ PAt w' ⟨b, r, 0, [], Sl.nil, [], Sl.nil, mbs, ⟨some ⟨gm, 0, none⟩, p, p⟩, ds⟩ ∧ (∀ k ∈ b :: gm :: mbs, w.heap.size ≤ k) ∧ Below w.heap.size w w' := by
  obtain ⟨h1, h2, h3, h4, h5, h6⟩ := h
  obtain ⟨i0, hi, hz0, hz1, hz2⟩ := info_parts Tryz.info126
  obtain ⟨i1, z, gi, gz0, gz2⟩ := doer_info
  have hmp : ∀ wx : World, (Instr.makeSlice 95 (.int .i64 (p : Int)) (.int .i64 (p : Int))).run Tryz.prog wx = .ok (.slice (some ⟨wx.heap.size, 0, none⟩) p p) (wx.alloc (.cells (zeroMk p).toArray 126)) := fun wx => by
    have := run_make (P := Tryz.prog) wx 95 126 i0 (.agg #[.int .i64 0, .map none]) Tryz.underlying95 hi hz0 .i64 .i64 p p (by omega) (by omega) (by rw [hz2]; omega) (by omega)
    rw [hz1] at this
    simp only [Int.toNat_natCast] at this
    rw [← made_mk]
    simpa using this
  have hmd : ∀ wx : World, (Instr.makeSlice 96 (.int .i64 (d : Int)) (.int .i64 (d : Int))).run Tryz.prog wx = .ok (.slice (some ⟨wx.heap.size, 0, none⟩) d d) (wx.alloc (.cells (madeCells z.cells (d * i1.size)) 110)) := fun wx => by
    have hb : (i1.bytes : Int) * (d : Int) ≤ 281474976710656 := by
      have : i1.bytes * d ≤ 1000 * 6 := Nat.mul_le_mul gz2 (by omega)
      have e : (i1.bytes : Int) * (d : Int) = ((i1.bytes * d : Nat) : Int) := by simp
      rw [e]; omega
    have := run_make (P := Tryz.prog) wx 96 110 i1 z Tryz.underlying96 gi gz0 .i64 .i64 d d (by omega) (by omega) hb (by omega)
    simpa using this
  generalize hDM : (zeroMk p).toArray = DM at *
  generalize madeCells z.cells (d * i1.size) = DD at *
  have HDM := hide hDM.symm
  clear hDM hi hz0 hz1 hz2 gi gz0 gz2
  go_enter Tryz.func38, Tryz.ntmps38
  go_wp2
  go_cut [8] from 32 to 38 (fun x wx => ∃ gb gm ds, x = .pointer (some ⟨gb, 0, none⟩) ∧ NewAt w wx gb gm ds p r)
  case first =>
    go_region
    all_goals
      go_wp2
      go_meet
      refine ⟨_, _, ⟨some ⟨_, 0, none⟩, d, d⟩, rfl, ⟨(rowAt_topc (by simp) rfl).drew, ?_, ?_, ?_, ?_, ?_⟩⟩
      · refine RowAt.drew ?_; repeat (first | (refine rowAt_topc ?_ HDM.out; simp; done) | refine RowAt.alloc ?_ _)
      · first | (simp; done) | (simp; omega) | omega
      · first | (simp; done) | (simp; omega) | omega
      · first | (simp; done) | (simp; omega) | omega
      · exact (below_on (below_on (below_alloc1 _ _) (below_alloc1 _ _)) (below_alloc1 _ _)).drew
  case rest =>
    obtain ⟨gb, gm, ds, rfl, hN⟩ := hcut
    rename World => X
    have c4 := hN.row.cell' (i := 4) rfl
    have LP : Hid (NewLp w X gb gm ds p r []) := hide ⟨hN.row, by simp, by simpa [mkCells] using hN.mkr, by simp, hN.ne, hN.b0, hN.m0, hN.below⟩
    clear hN hmp hmd HDM
    go_wp2
    go_loopw [44] (fun i wr => ∃ mbs : List Nat, mbs.length ≤ p ∧ i = .int .i64 mbs.length ∧ Hid (NewLp w wr gb gm ds p r mbs)) (fun i _ => p - (intOf i).toNat)
    case atStart => exact ⟨[], by simp, rfl, LP⟩
    case round =>
      obtain ⟨mbs, hk, rfl, L⟩ := hrel
      by_cases hlt : mbs.length < p
      · have d4 := L.out.row.cell' (i := 4) rfl
        have hmk := L.out.mkr
        have z1 := hmk.cell' (i := mbs.length * 2 + 1) (v := .map none) (by rw [List.getElem?_append_right (by rw [mkCells_length]; omega), mkCells_length, show mbs.length * 2 + 1 - mbs.length * 2 = 0 * 2 + 1 by omega]; exact (zeroMk_get _ 0 (by omega)).2)
        have zf := hmk.frozen (mbs.length * 2 + 1)
        have hgl := hmk.lt
        have ST := hide (L.out.step hlt)
        have hmm : ∀ wx : World, (Instr.makeMap 124 none).run Tryz.prog wx = .ok (.map (some wx.heap.size)) (wx.alloc (.map #[] 0)) := fun _ => rfl
        clear hmk L LP c4
        go_wp2
        go_roundw
        case rel => exact ⟨mbs ++ [wr.heap.size], by simp; omega, by simp, ST⟩
        case measure => simp [intOf]; omega
      · have hpl : mbs.length = p := by omega
        clear c4 LP
        go_wp2
        go_ret2
        refine ⟨gb, gm, mbs, ds, rfl, hpl, L.out.done hpl (by omega) (by omega) (by omega), ?_, L.out.below⟩
        intro k hk
        simp only [List.mem_cons] at hk
        rcases hk with h | h | h
        · rw [h]; exact L.out.b0
        · rw [h]; exact L.out.m0
        · exact (L.out.maps k h).2.1

end Go.Proofs.YtlheloogmgmjnaaGreat
