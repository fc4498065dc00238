import Derived.Test.YtlheloogmgmjnaaT24
import Derived.Test.YtlheloogmgmjnaaT30
import Derived.Test.YtlheloogmgmjnaaT32
namespace Go.Proofs.Ytlheloogmgmjnaa
open Go.RowKit

def doZero (d : Nat) : List Value := (List.replicate d (⟨0, Mac.zero⟩ : SDo)).flatMap SDo.row
theorem made_list (z : Array Value) (c : List Value) (hz : z = c.toArray) (hc : 0 < c.length) : ∀ n, (madeCells z (n * c.length)).toList = (List.replicate n c).flatMap id := by
  have get : ∀ n i, i < n * c.length → ((List.replicate n c).flatMap id)[i]? = c[i % c.length]? := by
    intro n
    induction n with
    | zero => intro i hi; omega
    | succ n ih =>
      intro i hi
      rw [List.replicate_succ, List.flatMap_cons]
      show (c ++ _)[i]? = _
      by_cases h : i < c.length
      · rw [List.getElem?_append_left h, Nat.mod_eq_of_lt h]
      · have e : (n + 1) * c.length = n * c.length + c.length := Nat.succ_mul n c.length
        rw [List.getElem?_append_right (by omega), ih (i - c.length) (by omega), ← Nat.mod_eq_sub_mod (by omega)]
  have len : ∀ n, ((List.replicate n c).flatMap id).length = n * c.length := by
    intro n
    induction n with
    | zero => simp
    | succ n ih => rw [List.replicate_succ, List.flatMap_cons, List.length_append, ih, Nat.succ_mul]; simp [Nat.add_comm]
  intro n
  apply List.ext_getElem?
  intro i
  by_cases hi : i < n * c.length
  · rw [get n i hi]
    have hm : i % c.length < c.length := Nat.mod_lt _ hc
    subst hz
    simp [madeCells, hi, hm]
  · rw [List.getElem?_eq_none (by simp [madeCells]; omega), List.getElem?_eq_none (by rw [len]; omega)]
theorem doZero_flat (d : Nat) : (List.replicate d (SDo.row ⟨0, Mac.zero⟩)).flatMap id = doZero d := by
  unfold doZero
  induction d with
  | zero => rfl
  | succ d ih => rw [List.replicate_succ, List.replicate_succ, List.flatMap_cons, List.flatMap_cons, ih]; rfl
theorem doZero_eq (d : Nat) : (madeCells (SDo.row ⟨0, Mac.zero⟩).toArray (d * 30)).toList = doZero d := by
  have := made_list (SDo.row ⟨0, Mac.zero⟩).toArray (SDo.row ⟨0, Mac.zero⟩) rfl (by rw [doZero_row]; omega) d
  rw [doZero_row] at this
  rw [this, doZero_flat]

structure NewAtS (w wx : World) (gb gm gd p d r : Nat) : Prop where
  row : RowAt wx gb 64 [.int .i64 r, .int .i64 0, .slice none 0 0, .slice none 0 0, .slice (some ⟨gm, 0, none⟩) p p, .slice (some ⟨gd, 0, none⟩) d d, .int .i64 0]
  mkr : RowAt wx gm 90 (zeroMk p)
  dor : RowAt wx gd 76 (doZero d)
  ne : gb ≠ gm
  ne2 : gb ≠ gd
  ne3 : gm ≠ gd
  b0 : w.heap.size ≤ gb
  m0 : w.heap.size ≤ gm
  d0 : w.heap.size ≤ gd
  below : Below w.heap.size w wx

structure NewLpS (w wx : World) (gb gm gd p d r : Nat) (mbs : List Nat) : Prop where
  row : RowAt wx gb 64 [.int .i64 r, .int .i64 0, .slice none 0 0, .slice none 0 0, .slice (some ⟨gm, 0, none⟩) p p, .slice (some ⟨gd, 0, none⟩) d d, .int .i64 0]
  len : mbs.length ≤ p
  mkr : RowAt wx gm 90 (mkCells mbs ++ zeroMk (p - mbs.length))
  dor : RowAt wx gd 76 (doZero d)
  maps : ∀ g ∈ mbs, wx.heap[g]? = some (.map #[] 0) ∧ w.heap.size ≤ g ∧ g ≠ gb ∧ g ≠ gm ∧ g ≠ gd
  nd : mbs.Nodup
  ne : gb ≠ gm
  ne2 : gb ≠ gd
  ne3 : gm ≠ gd
  b0 : w.heap.size ≤ gb
  m0 : w.heap.size ≤ gm
  d0 : w.heap.size ≤ gd
  below : Below w.heap.size w wx

theorem NewLpS.step {w wx : World} {gb gm gd p d r : Nat} {mbs : List Nat} (h : NewLpS w wx gb gm gd p d r mbs) (hlt : mbs.length < p) :
    NewLpS w ((wx.setCell ⟨gm, mbs.length * 2 + 1, none⟩ (.map (some wx.heap.size))).alloc (.map #[] 0)) gb gm gd p d r (mbs ++ [wx.heap.size]) := by
  have hc : Chg wx ((wx.setCell ⟨gm, mbs.length * 2 + 1, none⟩ (.map (some wx.heap.size))).alloc (.map #[] 0)) (· = gm) := (Chg.setCell wx ⟨gm, mbs.length * 2 + 1, none⟩ _).trans (Chg.of_below (below_alloc1 _ _) _)
  have l1 := h.row.lt
  have l2 := h.mkr.lt
  have l3 := h.dor.lt
  have m0 := h.m0
  have b0 := h.b0
  refine ⟨h.row.chg hc h.ne, by simp; omega, ?_, h.dor.chg hc (fun e => h.ne3 e.symm), ?_, ?_, h.ne, h.ne2, h.ne3, h.b0, h.m0, h.d0, h.below.trans (hc.belowB (fun k hk => by omega) h.below.size)⟩
  · have := (h.mkr.set (mbs.length * 2 + 1) (.map (some wx.heap.size))).alloc (.map #[] 0)
    rw [show p - mbs.length = (p - (mbs.length + 1)) + 1 by omega, mk_set] at this
    simpa using this
  · intro g hg
    rcases List.mem_append.1 hg with hg | hg
    · obtain ⟨h1, h2, h3, h4, h5⟩ := h.maps g hg
      exact ⟨by rw [hc.block g (blk_of_map h1) h4]; exact h1, h2, h3, h4, h5⟩
    · obtain rfl := List.mem_singleton.1 hg
      have hne : wx.heap.size ≠ gm := by omega
      refine ⟨?_, h.below.size, by omega, hne, by omega⟩
      have e : (wx.setCell ⟨gm, mbs.length * 2 + 1, none⟩ (.map (some wx.heap.size))).heap.size = wx.heap.size := size_setCell_eq _ _ _
      have := heap_alloc_new (wx.setCell ⟨gm, mbs.length * 2 + 1, none⟩ (.map (some wx.heap.size))) (.map #[] 0)
      rw [e] at this
      exact this
  · rw [List.nodup_append]
    refine ⟨h.nd, by simp, ?_⟩
    intro a ha b hb
    rw [List.mem_singleton.1 hb]
    have := blk_of_map (h.maps a ha).1
    omega

def newSM (gb gm gd p d r : Nat) (mbs : List Nat) : SM :=
  ⟨gb, r, 0, 0, [], Sl.nil, [], [], Sl.nil, mbs.map (fun g => ⟨0, g⟩), ⟨some ⟨gm, 0, none⟩, p, p⟩, List.replicate d ⟨0, Mac.zero⟩, ⟨some ⟨gd, 0, none⟩, d, d⟩, fun _ => [], fun _ => none⟩

theorem mkCells_row (l : List Nat) : (l.map (fun g => (⟨0, g⟩ : SMk))).flatMap SMk.row = mkCells l := by
  induction l with
  | nil => rfl
  | cons x l ih => rw [List.map_cons, List.flatMap_cons, ih]; rfl

theorem NewLpS.done {w wx : World} {gb gm gd p d r : Nat} {mbs : List Nat} (h : NewLpS w wx gb gm gd p d r mbs) (hlen : mbs.length = p) (h1 : 1 ≤ p) (h8 : p ≤ 8) (hd1 : 1 ≤ d) (hd6 : d ≤ 6) :
    SAt wx (newSM gb gm gd p d r mbs) := by
  have hm := h.mkr
  rw [hlen, Nat.sub_self] at hm
  have e : mkCells mbs ++ zeroMk 0 = mkCells mbs := by simp [zeroMk]
  rw [e] at hm
  have hml : (newSM gb gm gd p d r mbs).mks.length = p := by simp [newSM, hlen]
  have hdz : (doZero d).length = d * 30 := by
    unfold doZero
    rw [doRows_length _ (fun x hx => by rw [(List.mem_replicate.1 hx).2]; exact ⟨rfl, rfl⟩)]
    simp
  exact {
    row := h.row
    rc := Own.nil _ _ _
    rcn := rfl
    en := Own.nil _ _ _
    enn := rfl
    mO := by
      show Own wx 90 2 ⟨some ⟨gm, 0, none⟩, p, p⟩ _
      rw [show (newSM gb gm gd p d r mbs).mks.flatMap SMk.row = mkCells mbs from mkCells_row mbs]
      exact Own.of_row hm (by rw [mkCells_length, hlen]) (by unfold maxLen; omega)
    mkn := hml.symm
    mk1 := by rw [hml]; exact h1
    mk8 := by rw [hml]; exact h8
    dO := Own.of_row (n := d) h.dor hdz (by unfold maxLen; omega)
    don := by simp [newSM]
    do1 := by simp [newSM]; exact hd1
    do6 := by simp [newSM]; exact hd6
    dr := by
      intro x hx
      rw [(List.mem_replicate.1 hx).2]
      exact ⟨rfl, rfl⟩
    maps := by
      intro i m hi
      have hi' : (mbs.map (fun g => (⟨0, g⟩ : SMk)))[i]? = some m := hi
      rw [List.getElem?_map] at hi'
      obtain ⟨g, hg, rfl⟩ := Option.map_eq_some_iff.1 hi'
      have := IMapAt.made (h.maps g (List.mem_of_getElem? hg)).1
      have e : (newSM gb gm gd p d r mbs).mapOf i = fun _ => none := by
        funext k; simp [SM.mapOf, newSM]
      rw [e]; exact this
    vers := fun k _ => VerAt.nil wx
    keys := by intro k s hs; simp [newSM] at hs
    nodup := by
      show (gb :: ([] ++ ([] ++ ([gm] ++ ([gd] ++ (mbs.map (fun g => (⟨0, g⟩ : SMk))).map (·.g)))))).Nodup
      have e2 : (mbs.map (fun g => (⟨0, g⟩ : SMk))).map (·.g) = mbs := by
        rw [List.map_map]
        show List.map (fun g => g) mbs = mbs
        simp
      rw [e2]
      simp only [List.nil_append, List.singleton_append, List.nodup_cons, List.mem_cons, not_or]
      have n1 := h.ne
      have n2 := h.ne2
      have n3 := h.ne3
      exact ⟨⟨n1, n2, fun q => (h.maps gb q).2.2.1 rfl⟩, ⟨n3, fun q => (h.maps gm q).2.2.2.1 rfl⟩, fun q => (h.maps gd q).2.2.2.2 rfl, h.nd⟩
    vbase := by intro k _ x hx; simp [newSM, SM.vsl, Sl.nil, Sl.blk] at hx
    vapart := by intro k _ _ _ _ x hx; simp [newSM, SM.vsl, Sl.nil, Sl.blk] at hx
    txn := by intro i r t hr; simp [newSM] at hr
    txl := rfl
    txns := by simp [newSM]
    ends1 := by simp [newSM] }

set_option maxHeartbeats 2000000 in
set_option maxRecDepth 100000 in
theorem sNew_yes (p d r : Nat) (w : World) (h : sizeOk p d r) :
    Calls Try.prog 45 #[.int .i64 p, .int .i64 d, .int .i64 r] w fun e w' => ∃ b gm gd mbs, e = .returned (.tuple #[.pointer (some ⟨b, 0, none⟩), .int .i64 0]) ∧ mbs.length = p ∧ SAt w' (newSM b gm gd p d r mbs) ∧ (∀ k ∈ b :: gm :: gd :: mbs, w.heap.size ≤ k) ∧ Below w.heap.size w w' := by
  obtain ⟨h1, h2, h3, h4, h5, h6⟩ := h
  obtain ⟨i0, hi, hz0, hz1, hz2⟩ := info_parts Try.info90
  obtain ⟨i1, gi, gz0, gz1, gz2⟩ := doer_info2
  have hmp : ∀ wx : World, (Instr.makeSlice 61 (.int .i64 (p : Int)) (.int .i64 (p : Int))).run Try.prog wx = .ok (.slice (some ⟨wx.heap.size, 0, none⟩) p p) (wx.alloc (.cells (zeroMk p).toArray 90)) := fun wx => by
    have := run_make (P := Try.prog) wx 61 90 i0 (.agg #[.int .i64 0, .map none]) Try.underlying61 hi hz0 .i64 .i64 p p (by omega) (by omega) (by rw [hz2]; omega) (by omega)
    rw [hz1] at this
    simp only [Int.toNat_natCast] at this
    rw [← made_mk]
    simpa using this
  have hmd : ∀ wx : World, (Instr.makeSlice 62 (.int .i64 (d : Int)) (.int .i64 (d : Int))).run Try.prog wx = .ok (.slice (some ⟨wx.heap.size, 0, none⟩) d d) (wx.alloc (.cells (doZero d).toArray 76)) := fun wx => by
    have hb : (i1.bytes : Int) * (d : Int) ≤ 281474976710656 := by
      have : i1.bytes * d ≤ 1000 * 6 := Nat.mul_le_mul gz2 (by omega)
      have e : (i1.bytes : Int) * (d : Int) = ((i1.bytes * d : Nat) : Int) := by simp
      rw [e]; omega
    have := run_make (P := Try.prog) wx 62 76 i1 _ Try.underlying62 gi gz0 .i64 .i64 d d (by omega) (by omega) hb (by omega)
    rw [gz1] at this
    simp only [Int.toNat_natCast] at this
    rw [← doZero_eq]
    simpa [Value.cells] using this
  generalize hDM : (zeroMk p).toArray = DM at *
  generalize hDD : (doZero d).toArray = DD at *
  have HDM := hide hDM.symm
  have HDD := hide hDD.symm
  clear hDM hDD hi hz0 hz1 hz2 gi gz0 gz1 gz2
  go_enter Try.func45, Try.ntmps45
  go_wp2
  go_cut [8] from 32 to 38 (fun x wx => ∃ gb gm gd, x = .pointer (some ⟨gb, 0, none⟩) ∧ NewAtS w wx gb gm gd p d r)
  case first =>
    go_region
    all_goals
      go_wp2
      go_meet
      refine ⟨_, _, _, rfl, ⟨(rowAt_topc (by simp) rfl).drew, ?_, ?_, ?_, ?_, ?_, ?_, ?_, ?_, ?_⟩⟩
      · refine RowAt.drew ?_; repeat (first | (refine rowAt_topc ?_ HDM.out; simp; done) | refine RowAt.alloc ?_ _)
      · refine RowAt.drew ?_; repeat (first | (refine rowAt_topc ?_ HDD.out; simp; done) | refine RowAt.alloc ?_ _)
      · first | (simp; done) | (simp; omega) | omega
      · first | (simp; done) | (simp; omega) | omega
      · first | (simp; done) | (simp; omega) | omega
      · first | (simp; done) | (simp; omega) | omega
      · first | (simp; done) | (simp; omega) | omega
      · first | (simp; done) | (simp; omega) | omega
      · exact (below_on (below_on (below_alloc1 _ _) (below_alloc1 _ _)) (below_alloc1 _ _)).drew
  case rest =>
    obtain ⟨gb, gm, gd, rfl, hN⟩ := hcut
    rename World => X
    have c4 := hN.row.cell' (i := 4) rfl
    have LP : Hid (NewLpS w X gb gm gd p d r []) := hide ⟨hN.row, by simp, by simpa [mkCells] using hN.mkr, hN.dor, by simp, by simp, hN.ne, hN.ne2, hN.ne3, hN.b0, hN.m0, hN.d0, hN.below⟩
    clear hN hmp hmd HDM HDD
    go_wp2
    go_loopw [44] (fun i wr => ∃ mbs : List Nat, mbs.length ≤ p ∧ i = .int .i64 mbs.length ∧ Hid (NewLpS w wr gb gm gd p d r mbs)) (fun i _ => p - (intOf i).toNat)
    case atStart => exact ⟨[], by simp, rfl, LP⟩
    case round =>
      obtain ⟨mbs, hk, rfl, L⟩ := hrel
      by_cases hlt : mbs.length < p
      · have d4 := L.out.row.cell' (i := 4) rfl
        have hmk := L.out.mkr
        have z1 := hmk.cell' (i := mbs.length * 2 + 1) (v := .map none) (by rw [List.getElem?_append_right (by rw [mkCells_length]; omega), mkCells_length, show mbs.length * 2 + 1 - mbs.length * 2 = 0 * 2 + 1 by omega]; exact (zeroMk_get _ 0 (by omega)).2)
        have zf := hmk.frozen (mbs.length * 2 + 1)
        have hgl := hmk.lt
        have ST := hide (L.out.step hlt)
        have hmm : ∀ wx : World, (Instr.makeMap 88 none).run Try.prog wx = .ok (.map (some wx.heap.size)) (wx.alloc (.map #[] 0)) := fun _ => rfl
        clear hmk L LP c4
        go_wp2
        go_roundw
        case rel => exact ⟨mbs ++ [wr.heap.size], by simp; omega, by simp, ST⟩
        case measure => simp [intOf]; omega
      · have hpl : mbs.length = p := by omega
        clear c4 LP
        go_wp2
        go_ret2
        refine ⟨gb, gm, gd, mbs, rfl, hpl, L.out.done hpl (by omega) (by omega) (by omega) (by omega), ?_, L.out.below⟩
        intro k hk
        simp only [List.mem_cons] at hk
        rcases hk with h | h | h | h
        · rw [h]; exact L.out.b0
        · rw [h]; exact L.out.m0
        · rw [h]; exact L.out.d0
        · exact (L.out.maps k h).2.1

end Go.Proofs.Ytlheloogmgmjnaa
