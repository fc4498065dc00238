import Derived.Test.YtlheloogmgmjnaaT11
import Derived.BigRegion
namespace Go.Proofs.Ytlheloogmgmjnaa
open Go.RowKit

theorem verCells_set (l : List Ver) (x : Ver) : ∀ (i : Nat), i < l.length → (l.getD i Ver.zero).txn = x.txn → (((verCells l).set (i * 4 + 1) (.int .i64 x.st)).set (i * 4 + 2) (.int .i64 x.v)).set (i * 4 + 3) (.bool x.th) = verCells (l.set i x) := by
  induction l with
  | nil => intro i hi; simp at hi
  | cons y l ih =>
    intro i hi ht
    cases i with
    | zero => simp [List.getD] at ht; simp [verCells_cons, ht]
    | succ i =>
      have := ih i (by simpa using hi) (by simpa [List.getD] using ht)
      rw [verCells_cons, show (y :: l).set (i + 1) x = y :: l.set i x from rfl, verCells_cons, show (i + 1) * 4 = i * 4 + 1 + 1 + 1 + 1 by omega]
      simpa using this

/-- Up to the i-th: those of a transaction are settled. -/
def setTo (l : List Ver) (txn st : Nat) (v : Int) (th : Bool) : Nat → List Ver
  | 0 => l
  | i + 1 => if (l.getD i Ver.zero).txn = txn then (setTo l txn st v th i).set i ⟨txn, st, v, th⟩ else setTo l txn st v th i
def settleV (l : List Ver) (txn st : Nat) (v : Int) (th : Bool) : List Ver := l.map fun x => if x.txn = txn then ⟨txn, st, v, th⟩ else x
theorem setTo_length (l : List Ver) (txn st : Nat) (v : Int) (th : Bool) : ∀ i, (setTo l txn st v th i).length = l.length
  | 0 => rfl
  | i + 1 => by
    rw [setTo]
    split
    · rw [List.length_set]; exact setTo_length l txn st v th i
    · exact setTo_length l txn st v th i
theorem setTo_get (l : List Ver) (txn st : Nat) (v : Int) (th : Bool) : ∀ (i j : Nat), j < l.length → (setTo l txn st v th i).getD j Ver.zero = if j < i ∧ (l.getD j Ver.zero).txn = txn then ⟨txn, st, v, th⟩ else l.getD j Ver.zero
  | 0, j, _ => by simp [setTo]
  | i + 1, j, hj => by
    have ih := setTo_get l txn st v th i j hj
    have hl := setTo_length l txn st v th i
    rw [setTo]
    by_cases hij : i = j
    · subst hij
      split
      · rename_i h
        rw [if_pos ⟨by omega, h⟩]
        simp [List.getD, hl, hj]
      · rename_i h
        rw [ih, if_neg (fun q => by omega), if_neg (fun q => h q.2)]
    · split
      · have : ((setTo l txn st v th i).set i ⟨txn, st, v, th⟩).getD j Ver.zero = (setTo l txn st v th i).getD j Ver.zero := by simp [List.getD, List.getElem?_set_ne hij]
        rw [this, ih]
        have : j < i ↔ j < i + 1 := by omega
        simp [this]
      · rw [ih]
        have : j < i ↔ j < i + 1 := by omega
        simp [this]
theorem setTo_end (l : List Ver) (txn st : Nat) (v : Int) (th : Bool) : setTo l txn st v th l.length = settleV l txn st v th := by
  apply List.ext_getElem
  · rw [setTo_length]; simp [settleV]
  · intro j h1 h2
    have hj : j < l.length := by rw [setTo_length] at h1; exact h1
    have h := setTo_get l txn st v th l.length j hj
    have e1 : (setTo l txn st v th l.length).getD j Ver.zero = (setTo l txn st v th l.length)[j] := by simp [List.getD, h1]
    rw [e1] at h
    have e2 : l.getD j Ver.zero = l[j] := by simp [List.getD, hj]
    rw [h, e2]
    simp only [settleV, List.getElem_map, hj, true_and]

theorem VerAt.blk {w : World} {s : Sl} {l : List Ver} (h : VerAt w s l) {i : Nat} (hi : i < l.length) : ∃ b, s.a = some ⟨b, 0, none⟩ ∧ b < w.heap.size ∧ s.blk = [b] := by
  obtain ⟨b, hb, d0⟩ := h.own.cell (verCells_get l i hi).1
  exact ⟨b, hb, lt_of_cell d0, by simp [Sl.blk, hb]⟩

theorem VerAt.set {w : World} {s : Sl} {l : List Ver} (h : VerAt w s l) {b : Nat} (hb : s.a = some ⟨b, 0, none⟩) {i : Nat} (hi : i < l.length) (x : Ver) (ht : (l.getD i Ver.zero).txn = x.txn) :
    VerAt (((w.setCell ⟨b, i * 4 + 1, none⟩ (.int .i64 x.st)).setCell ⟨b, i * 4 + 2, none⟩ (.int .i64 x.v)).setCell ⟨b, i * 4 + 3, none⟩ (.bool x.th)) s (l.set i x) := by
  have h3 := ((h.own.set hb (i * 4 + 1) (.int .i64 x.st)).set hb (i * 4 + 2) (.int .i64 x.v)).set hb (i * 4 + 3) (.bool x.th)
  rw [verCells_set l x i hi ht] at h3
  exact ⟨h3, by rw [List.length_set]; exact h.n⟩

set_option maxHeartbeats 4000000 in
set_option maxRecDepth 100000 in
theorem vsettle_any (g : Nat) (f : Nat → Option Sl) (key txn st : Nat) (v : Int) (th : Bool) (l : List Ver) (w : World) (h : IMapAt w g f) (hv : VerAt w ((f key).getD Sl.nil) l) (hl : l.length ≤ 1000) :
    Calls Try.prog 94 #[.map (some g), .int .i64 key, .int .i64 txn, .int .i64 st, .agg #[.int .i64 v, .bool th]] w fun e w' =>
      e = .returned (.tuple #[]) ∧ VerAt w' ((f key).getD Sl.nil) (settleV l txn st v th) ∧ Chg w w' (fun k => k ∈ ((f key).getD Sl.nil).blk) := by
  have LK := (h.below (below_alloc1 w (.cells #[.int .i64 v, .bool th] 69))).run_lookup 88 3 110 Try.underlying88' Try.underlying3' (Try.zero110 _) key
  generalize (f key).getD Sl.nil = s at *
  have hn := hv.n
  have HV := hide hv
  have A0 := hide (rowAt_alloc w [.int .i64 v, .bool th] 69)
  have B0 := hide (below_alloc1 w (.cells #[.int .i64 v, .bool th] 69))
  clear h hv
  obtain ⟨sa, sn, sc⟩ := s
  simp only [Sl.val] at LK hn
  subst hn
  go_enter Try.func94, Try.ntmps94
  go_wp2
  clear LK
  go_loopw [11, 12, 18] (fun _ _ i wr => ∃ j : Nat, j ≤ l.length ∧ i = .int .i64 j ∧ VerAt wr ⟨sa, l.length, sc⟩ (setTo l txn st v th j) ∧ RowAt wr w.heap.size 69 [.int .i64 v, .bool th] ∧ Chg w wr (fun k => k ∈ Sl.blk ⟨sa, l.length, sc⟩)) (fun _ _ i _ => l.length - (intOf i).toNat)
  case atStart => exact ⟨0, Nat.zero_le _, rfl, HV.out.below B0.out, A0.out, Chg.of_below B0.out _⟩
  case round =>
    obtain ⟨j, hj, rfl, hV, hR, hC⟩ := hrel
    by_cases hjl : j < l.length
    · have hsl := setTo_length l txn st v th j
      have hget := setTo_get l txn st v th j j hjl
      rw [if_neg (by omega)] at hget
      obtain ⟨c0, c1, c2, c3⟩ := verCells_get (setTo l txn st v th j) j (by omega)
      obtain ⟨b, hsa, hbl, hbk⟩ := HV.out.blk hjl
      simp only at hsa
      have cell : ∀ {i : Nat} {u : Value}, (verCells (setTo l txn st v th j))[i]? = some u → wr.cell? ⟨b, i, none⟩ = some u := by
        intro i u hi
        obtain ⟨b', hb', d⟩ := hV.own.cell hi
        simp only [hsa] at hb'
        simp at hb'
        subst hb'
        exact d
      replace c0 := cell c0
      replace c1 := cell c1
      replace c2 := cell c2
      replace c3 := cell c3
      clear cell
      have hf := fun i => hV.own.frozen (g := b) hsa i
      have hf1 := hf (j * 4 + 1)
      have hf2 := hf (j * 4 + 2)
      have hf3 := hf (j * 4 + 3)
      clear hf
      have x0 := hR.cell' (i := 0) rfl
      have x1 := hR.cell' (i := 1) rfl
      have hltr := hV.own.blk_lt b (by simp [Sl.blk, hsa])
      have hRlt := hR.lt
      rw [hget] at c0
      have hjl' : (j : Int) < (l.length : Int) := by omega
      have hwr : IntKind.i64.wrap ((j : Int) + 1) = ((j + 1 : Nat) : Int) := by rw [IntKind.wrap_i64]; omega
      by_cases ht : (l.getD j Ver.zero).txn = txn
      · have hVs := hide (hV.set hsa (i := j) (by omega) ⟨txn, st, v, th⟩ (by rw [hget]; exact ht))
        have hTo : setTo l txn st v th (j + 1) = (setTo l txn st v th j).set j ⟨txn, st, v, th⟩ := by rw [setTo, if_pos ht]
        rw [← hTo] at hVs
        have hRs := hide (((hR.setOther (a := ⟨b, j * 4 + 1, none⟩) (by show ¬ w.heap.size = b; omega) (.int .i64 st)).setOther (a := ⟨b, j * 4 + 2, none⟩) (by show ¬ w.heap.size = b; omega) (.int .i64 v)).setOther (a := ⟨b, j * 4 + 3, none⟩) (by show ¬ w.heap.size = b; omega) (.bool th))
        have hCs := hide (hC.trans (((Chg.setCell wr ⟨b, j * 4 + 1, none⟩ (.int .i64 st)).trans ((Chg.setCell _ ⟨b, j * 4 + 2, none⟩ (.int .i64 v)).trans (Chg.setCell _ ⟨b, j * 4 + 3, none⟩ (.bool th)))).mono (fun k _ (hk : k = b) => by rw [hbk, hk]; simp)))
        rw [ht] at c0
        clear hV hR hC hget hTo hbk HV A0 B0
        subst hsa
        have hne : ¬ w.heap.size = b := by omega
        go_wp2
        go_region
        go_wp2
        go_roundw
        case rel => exact ⟨j + 1, by omega, by go_num, hVs.out.below (below_drewN (Below.refl _ _) 1), hRs.out.drew, hCs.out.drew⟩
        case measure => simp [intOf]; omega
      · have hVs := hide hV
        have hTo : setTo l txn st v th (j + 1) = setTo l txn st v th j := by rw [setTo, if_neg ht]
        rw [← hTo] at hVs
        have hRs := hide hR
        have hCs := hide hC
        generalize (l.getD j Ver.zero).txn = tx at *
        have d0 : ((tx : Int) == (txn : Int)) = false := by simp; omega
        clear hV hR hC hget hTo hbk HV A0 B0
        subst hsa
        go_wp2
        go_roundw
        case rel => exact ⟨j + 1, by omega, by go_num, hVs.out, hRs.out, hCs.out⟩
        case measure => simp [intOf]; omega
    · have hjj : j = l.length := by omega
      subst hjj
      rw [setTo_end] at hV
      have HE := hide hV
      have HC := hide hC
      clear hV hR hC
      go_wp2
      go_end0
      exact ⟨rfl, HE.out, HC.out⟩

set_option maxHeartbeats 1000000 in
theorem vSay_any (g : Nat) (f : Nat → Option Sl) (key txn : Nat) (v : Int) (th : Bool) (l : List Ver) (w : World) (h : IMapAt w g f) (hv : VerAt w ((f key).getD Sl.nil) l) (hl : l.length ≤ 1000) :
    Calls Try.prog 77 #[.map (some g), .int .i64 key, .int .i64 txn, .agg #[.int .i64 v, .bool th]] w fun e w' =>
      e = .returned (.tuple #[]) ∧ VerAt w' ((f key).getD Sl.nil) (settleV l txn 2 v th) ∧ Chg w w' (fun k => k ∈ ((f key).getD Sl.nil).blk) := by
  have B0 := hide (below_alloc1 w (.cells #[.int .i64 v, .bool th] 69))
  have SE := hide (vsettle_any g f key txn 2 v th l _ (h.below B0.out) (hv.below B0.out) hl)
  clear h hv
  go_enter Try.func77, Try.ntmps77
  go_wp2_with (go_at_call 94; refine SE.out.mono ?_; rintro e w' ⟨rfl, h1, h2⟩; have H1 := hide h1; have H2 := hide h2; clear h1 h2)
  go_end0
  exact ⟨rfl, H1.out, (Chg.of_below B0.out _).trans H2.out⟩

set_option maxHeartbeats 1000000 in
theorem vPass_any (g : Nat) (f : Nat → Option Sl) (key txn : Nat) (l : List Ver) (w : World) (h : IMapAt w g f) (hv : VerAt w ((f key).getD Sl.nil) l) (hl : l.length ≤ 1000) :
    Calls Try.prog 91 #[.map (some g), .int .i64 key, .int .i64 txn] w fun e w' =>
      e = .returned (.tuple #[]) ∧ VerAt w' ((f key).getD Sl.nil) (settleV l txn 1 0 false) ∧ Chg w w' (fun k => k ∈ ((f key).getD Sl.nil).blk) := by
  have SE := hide (vsettle_any g f key txn 1 0 false l _ h hv hl)
  clear h hv
  go_enter Try.func91, Try.ntmps91
  go_wp2_with (go_at_call 94; refine SE.out.mono ?_; rintro e w' ⟨rfl, h1, h2⟩; have H1 := hide h1; have H2 := hide h2; clear h1 h2)
  go_end0
  exact ⟨rfl, H1.out, H2.out⟩

end Go.Proofs.Ytlheloogmgmjnaa
