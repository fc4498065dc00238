import Derived.Test.YtlheloogmgmjnaaGreatRefCut
namespace Go.Proofs.YtlheloogmgmjnaaGreat
open Go.RowKit

def sizeOk (p d r : Int) : Prop := 1 ≤ p ∧ p ≤ 8 ∧ 1 ≤ d ∧ d ≤ 6 ∧ 0 ≤ r ∧ r ≤ 500

set_option maxHeartbeats 2000000 in
set_option maxRecDepth 100000 in
theorem rNew_no (p d r : Int) (w : World) (h : ¬ sizeOk p d r) :
    Calls Tryz.prog 41 #[.int .i64 p, .int .i64 d, .int .i64 r] w fun e w' => e = .returned (.tuple #[.pointer none, .int .i64 1]) ∧ w' = w := by
  have hcase : p < 1 ∨ (1 ≤ p ∧ 8 < p) ∨ (1 ≤ p ∧ p ≤ 8 ∧ d < 1) ∨ (1 ≤ p ∧ p ≤ 8 ∧ 1 ≤ d ∧ 6 < d) ∨ (1 ≤ p ∧ p ≤ 8 ∧ 1 ≤ d ∧ d ≤ 6 ∧ r < 0) ∨ (1 ≤ p ∧ p ≤ 8 ∧ 1 ≤ d ∧ d ≤ 6 ∧ 0 ≤ r ∧ 500 < r) := by unfold sizeOk at h; omega
  clear h
  rcases hcase with h1 | ⟨h1, h2⟩ | ⟨h1, h2, h3⟩ | ⟨h1, h2, h3, h4⟩ | ⟨h1, h2, h3, h4, h5⟩ | ⟨h1, h2, h3, h4, h5, h6⟩
  all_goals
    go_enter Tryz.func41, Tryz.ntmps41
    go_wp2
    go_ret2
    exact ⟨rfl, rfl⟩

def newRM (b i1 i2 i3 i4 p d r : Nat) : RM :=
  { b := b, parts := p, doers := d, room := r, taken := 0, tasks := [], hv := List.replicate 24 Slot.none, ends := [], dealt := List.replicate p 0, hand := List.replicate d 0, dids := List.replicate d 0
    tkS := Sl.nil, hvS := ⟨some ⟨i1, 0, none⟩, 24, 24⟩, enS := Sl.nil, deS := ⟨some ⟨i2, 0, none⟩, p, p⟩, haS := ⟨some ⟨i3, 0, none⟩, d, d⟩, diS := ⟨some ⟨i4, 0, none⟩, d, d⟩ }

def zeroSlots : List Value := slotCells (List.replicate 24 Slot.none)
def zeroInts (n : Nat) : List Value := ints (nats (List.replicate n 0))

theorem refAt_new {w : World} {b i1 i2 i3 i4 p d r : Nat} (h : sizeOk p d r)
    (hb : RowAt w b 42 [.int .i64 p, .int .i64 d, .int .i64 r, .slice none 0 0, .slice (some ⟨i1, 0, none⟩) 24 24, .slice none 0 0, .slice (some ⟨i2, 0, none⟩) p p, .slice (some ⟨i3, 0, none⟩) d d, .slice (some ⟨i4, 0, none⟩) d d, .int .i64 0])
    (h1 : RowAt w i1 172 zeroSlots) (h2 : RowAt w i2 3 (zeroInts p)) (h3 : RowAt w i3 3 (zeroInts d)) (h4 : RowAt w i4 3 (zeroInts d)) (hn : [b, i1, i2, i3, i4].Nodup) : RefAt w (newRM b i1 i2 i3 i4 p d r) := by
  obtain ⟨a1, a2, a3, a4, a5, a6⟩ := h
  exact
    { row := hb
      tk := Own.nil _ _ _
      tkn := rfl
      hv := Own.of_row h1 (by show (slotCells (List.replicate 24 Slot.none)).length = 24 * 2; simp [slotCells_length]) (by unfold maxLen; omega)
      hvn := rfl
      hvl := by simp [newRM]
      en := Own.nil _ _ _
      enn := rfl
      de := Own.of_row h2 (by show (ints (nats (List.replicate p 0))).length = p * 1; simp [ints, nats]) (by unfold maxLen; omega)
      den := by simp [newRM]
      del := by simp [newRM]
      ha := Own.of_row h3 (by show (ints (nats (List.replicate d 0))).length = d * 1; simp [ints, nats]) (by unfold maxLen; omega)
      han := by simp [newRM]
      hal := by simp [newRM]
      di := Own.of_row h4 (by show (ints (nats (List.replicate d 0))).length = d * 1; simp [ints, nats]) (by unfold maxLen; omega)
      din := by simp [newRM]
      dil := by simp [newRM]
      tsk := fun t ht => by simp [newRM] at ht
      nodup := by simpa [RM.mut, newRM, Sl.blk, Sl.nil] using hn
      apart := fun k hk => by simp [RM.imm, newRM] at hk
      immlt := fun k hk => by simp [RM.imm, newRM] at hk
      parts1 := by simp only [newRM]; omega
      parts8 := by simp only [newRM]; omega
      doers1 := by simp only [newRM]; omega
      doers6 := by simp only [newRM]; omega
      room500 := by simp only [newRM]; omega
      txns := by simp [newRM]
      ends1 := by simp [newRM]
      ends2 := by simp [newRM]
      endsle := fun e he => by simp [newRM] at he
      dealtle := fun e he => by simp [newRM] at he; omega }

theorem ends_new {e : Ending} {w wx : World} {b i1 i2 i3 i4 p d r : Nat}
    (he : e = .returned (.tuple #[.pointer (some ⟨b, 0, none⟩), .int .i64 0]))
    (hb : RowAt wx b 42 [.int .i64 p, .int .i64 d, .int .i64 r, .slice none 0 0, .slice (some ⟨i1, 0, none⟩) 24 24, .slice none 0 0, .slice (some ⟨i2, 0, none⟩) p p, .slice (some ⟨i3, 0, none⟩) d d, .slice (some ⟨i4, 0, none⟩) d d, .int .i64 0])
    (h1 : RowAt wx i1 172 zeroSlots) (h2 : RowAt wx i2 3 (zeroInts p)) (h3 : RowAt wx i3 3 (zeroInts d)) (h4 : RowAt wx i4 3 (zeroInts d)) (hn : [b, i1, i2, i3, i4].Nodup) (hk : ∀ k ∈ [b, i1, i2, i3, i4], w.heap.size ≤ k) (hbl : Below w.heap.size w wx)
    (fin : RowAt wx b 42 [.int .i64 p, .int .i64 d, .int .i64 r, .slice none 0 0, .slice (some ⟨i1, 0, none⟩) 24 24, .slice none 0 0, .slice (some ⟨i2, 0, none⟩) p p, .slice (some ⟨i3, 0, none⟩) d d, .slice (some ⟨i4, 0, none⟩) d d, .int .i64 0] →
      RowAt wx i1 172 zeroSlots → RowAt wx i2 3 (zeroInts p) → RowAt wx i3 3 (zeroInts d) → RowAt wx i4 3 (zeroInts d) → [b, i1, i2, i3, i4].Nodup → RefAt wx (newRM b i1 i2 i3 i4 p d r)) :
    ∃ b i1 i2 i3 i4, e = .returned (.tuple #[.pointer (some ⟨b, 0, none⟩), .int .i64 0]) ∧ RefAt wx (newRM b i1 i2 i3 i4 p d r) ∧ (∀ k ∈ [b, i1, i2, i3, i4], w.heap.size ≤ k) ∧ Below w.heap.size w wx :=
  ⟨b, i1, i2, i3, i4, he, fin hb h1 h2 h3 h4 hn, hk, hbl⟩

theorem made_zero (n : Nat) : madeCells #[.int .i64 0] n = (zeroInts n).toArray := by
  apply Array.toList_inj.1
  rw [toList_madeCells_one]
  simp [zeroInts, ints, nats]

theorem rowAt_top {w : World} {cs : List Value} {c : Array Value} {t : TypeId} {g : Nat} (hg : g = w.heap.size) (hc : c = cs.toArray) : RowAt (w.alloc (.cells c t)) g t cs := by
  subst hg hc; exact rowAt_alloc w cs t

set_option maxHeartbeats 16000000 in
set_option maxRecDepth 100000 in
theorem rNew_yes (p d r : Nat) (w : World) (h : sizeOk p d r) :
    Calls Tryz.prog 41 #[.int .i64 p, .int .i64 d, .int .i64 r] w fun e w' => ∃ b i1 i2 i3 i4, e = .returned (.tuple #[.pointer (some ⟨b, 0, none⟩), .int .i64 0]) ∧ RefAt w' (newRM b i1 i2 i3 i4 p d r) ∧ (∀ k ∈ [b, i1, i2, i3, i4], w.heap.size ≤ k) ∧ Below w.heap.size w w' := by
  have hz := hide h
  obtain ⟨h1, h2, h3, h4, h5, h6⟩ := h
  have hmp := run_make_row' (P := Tryz.prog) 30 3 (.int .i64 0) 8 Tryz.underlying30 Tryz.info3 rfl .i64 .i64 p (by omega) (by omega)
  have hmd := run_make_row' (P := Tryz.prog) 30 3 (.int .i64 0) 8 Tryz.underlying30 Tryz.info3 rfl .i64 .i64 d (by omega) (by omega)
  have hms : ∀ wx : World, (Instr.makeSlice 40 (.int .i64 24) (.int .i64 24)).run Tryz.prog wx = .ok (.slice (some ⟨wx.heap.size, 0, none⟩) 24 24) (wx.alloc (.cells zeroSlots.toArray 172)) := fun wx => by kernel_rfl
  rw [made_zero] at hmp hmd
  have fin := hide (fun (wx : World) (b i1 i2 i3 i4 : Nat) => refAt_new (w := wx) (b := b) (i1 := i1) (i2 := i2) (i3 := i3) (i4 := i4) hz.out)
  clear hz
  generalize hSC : zeroSlots.toArray = SC at *
  generalize hDP : (zeroInts p).toArray = DP at *
  generalize hDD : (zeroInts d).toArray = DD at *
  have HSC := hide hSC.symm; have HDP := hide hDP.symm; have HDD := hide hDD.symm
  clear hSC hDP hDD
  go_enter Tryz.func41, Tryz.ntmps41
  go_wp2
  go_region
  all_goals
    go_wp2
    go_ret2
    apply ends_new
    · rfl
    · exact (rowAt_top (by simp) rfl).drew
    · refine RowAt.drew ?_; repeat (first | (refine rowAt_top ?_ HSC.out; simp; done) | refine RowAt.alloc ?_ _)
    · refine RowAt.drew ?_; repeat (first | (refine rowAt_top ?_ HDP.out; simp; done) | refine RowAt.alloc ?_ _)
    · refine RowAt.drew ?_; repeat (first | (refine rowAt_top ?_ HDD.out; simp; done) | refine RowAt.alloc ?_ _)
    · refine RowAt.drew ?_; repeat (first | (refine rowAt_top ?_ HDD.out; simp; done) | refine RowAt.alloc ?_ _)
    · simp; omega
    · intro k hk; simp at hk; omega
    · exact (below_on (below_on (below_on (below_on (below_alloc1 _ _) (below_alloc1 _ _)) (below_alloc1 _ _)) (below_alloc1 _ _)) (below_alloc1 _ _)).drew
    · exact fin.out _ _ _ _ _ _

end Go.Proofs.YtlheloogmgmjnaaGreat
