import Derived.Test.YtlheloogmgmjnaaT10
import Derived.Test.YtlheloogmgmjnaaT11
import Derived.Test.YtlheloogmgmjnaaT16
namespace Go.Proofs.Ytlheloogmgmjnaa
open Go.RowKit

structure SMk where
  dealt : Nat
  g : Nat
def SMk.row (m : SMk) : List Value := [.int .i64 m.dealt, .map (some m.g)]

structure MkAt (w : World) (b : Nat) (mks : List SMk) (mkS : Sl) : Prop where
  c4 : w.cell? ⟨b, 4, none⟩ = some (.slice mkS.a mkS.n mkS.c)
  own : Own w 90 2 mkS (mks.flatMap SMk.row)
  n : mkS.n = mks.length
  m1 : 1 ≤ mks.length
  m8 : mks.length ≤ 8

theorem MkAt.chg {w w' : World} {D : Nat → Prop} {b : Nat} {mks : List SMk} {mkS : Sl} (h : MkAt w b mks mkS) (hc : Chg w w' D) (hb : ¬ D b) (h1 : ∀ k ∈ mkS.blk, ¬ D k) : MkAt w' b mks mkS :=
  { h with c4 := cell_chg hc h.c4 hb, own := h.own.chg hc h1 }
theorem MkAt.below {w w' : World} {b : Nat} {mks : List SMk} {mkS : Sl} (h : MkAt w b mks mkS) (hb : Below w.heap.size w w') : MkAt w' b mks mkS :=
  h.chg (Chg.of_below hb (fun _ => False)) id (fun _ _ => id)

theorem mkRow_get (l : List SMk) : ∀ (i : Nat) (m : SMk), l[i]? = some m → (l.flatMap SMk.row)[i * 2]? = some (.int .i64 m.dealt) ∧ (l.flatMap SMk.row)[i * 2 + 1]? = some (.map (some m.g)) := by
  induction l with
  | nil => intro i m h; simp at h
  | cons x l ih =>
    intro i m h
    have e : (x :: l).flatMap SMk.row = .int .i64 x.dealt :: .map (some x.g) :: l.flatMap SMk.row := by simp [SMk.row]
    cases i with
    | zero => simp at h; subst h; simp [e]
    | succ i =>
      have := ih i m (by simpa using h)
      rw [e, show (i + 1) * 2 = i * 2 + 1 + 1 by omega]
      simpa using this
theorem MkAt.maker {w : World} {b : Nat} {mks : List SMk} {mkS : Sl} (h : MkAt w b mks mkS) {i : Nat} {m : SMk} (hi : mks[i]? = some m) :
    ∃ g, mkS.a = some ⟨g, 0, none⟩ ∧ g < w.heap.size ∧ w.cell? ⟨g, i * 2, none⟩ = some (.int .i64 m.dealt) ∧ w.cell? ⟨g, i * 2 + 1, none⟩ = some (.map (some m.g)) := by
  obtain ⟨c0, c1⟩ := mkRow_get mks i m hi
  obtain ⟨g, hg, d0⟩ := h.own.cell c0
  obtain ⟨g', hg', d1⟩ := h.own.cell c1
  rw [hg] at hg'
  simp at hg'
  subst hg'
  exact ⟨g, hg, lt_of_cell d0, d0, d1⟩

set_option maxHeartbeats 1000000 in
theorem makerOf_gen {b : Nat} {mks : List SMk} {mkS : Sl} (w : World) (h : MkAt w b mks mkS) (key : Nat) (hk : key < 24) :
    Calls Try.prog 51 #[.pointer (some ⟨b, 0, none⟩), .int .i64 key] w fun e w' => e = .returned (.int .i64 (key % mks.length : Nat)) ∧ w' = w := by
  have c4 := h.c4
  rw [h.n] at c4
  have h1 := h.m1
  have h8 := h.m8
  clear h
  have hdiv : Op.intDiv .rem .i64 (key : Int) (mks.length : Int) = pure (.int .i64 ((key % mks.length : Nat) : Int)) := by
    unfold Op.intDiv
    rw [if_neg (by omega)]
    have e : Int.tmod (key : Int) (mks.length : Int) = ((key % mks.length : Nat) : Int) := by
      rw [Int.tmod_eq_emod_of_nonneg (by omega)]; simp
    simp [e]
  go_enter Try.func51, Try.ntmps51
  go_wp2
  go_ret
  exact ⟨rfl, rfl⟩

set_option maxHeartbeats 2000000 in
set_option maxRecDepth 100000 in
theorem versionsOf_gen {b : Nat} {mks : List SMk} {mkS : Sl} (w : World) (h : MkAt w b mks mkS) (key : Nat) (hk : key < 24) (m : SMk) (hm : mks[key % mks.length]? = some m) :
    Calls Try.prog 56 #[.pointer (some ⟨b, 0, none⟩), .int .i64 key] w fun e w' => e = .returned (.map (some m.g)) ∧ ∃ n, w' = w.drewN n := by
  have c4 := h.c4
  rw [h.n] at c4
  have h1 := h.m1
  have h8 := h.m8
  have MO := hide (fun n => makerOf_gen (w.drewN n) (h.below (below_drewN (Below.refl _ _) n)) key hk)
  obtain ⟨g, hg, hgl, d0, d1⟩ := h.maker hm
  rw [hg] at c4
  have hlt : key % mks.length < mks.length := Nat.mod_lt _ (by omega)
  clear h hg hm
  generalize key % mks.length = q at *
  have hq : (q : Int) < (mks.length : Int) := by omega
  go_enter Try.func56, Try.ntmps56
  go_wp2
  go_quiet ((go_at_call 51; exact Calls.quiet_of_same (MO.out _)))
  go_wp2
  go_ret
  exact ⟨rfl, _, rfl⟩

set_option maxHeartbeats 2000000 in
set_option maxRecDepth 100000 in
theorem pready_gen {b : Nat} {mks : List SMk} {mkS : Sl} {recs : List PRec} {rcS : Sl} {ends : List Nat} {enS : Sl} (w : World) (h : MkAt w b mks mkS) (hi : InAt w b recs rcS ends enS) (hd : ∀ m ∈ mks, m.dealt ≤ 1000) :
    Calls Try.prog 30 #[.pointer (some ⟨b, 0, none⟩)] w fun e w' =>
      e = .returned (.tuple #[.int .i64 (wholeB ends (minOf (mks.map (·.dealt)) ((mks.map (·.dealt)).getD 0 0))), .int .i64 (lastOfN ends (wholeB ends (minOf (mks.map (·.dealt)) ((mks.map (·.dealt)).getD 0 0))))]) ∧ Below w.heap.size w w' := by
  have c4 := h.c4
  rw [h.n] at c4
  have h8 := h.m8
  have h1 := h.m1
  have hbl := lt_of_cell h.c4
  have H := hide h
  obtain ⟨g, hg, hgl, d0, _⟩ := h.maker (List.getElem?_eq_getElem (show 0 < mks.length by omega))
  rw [Nat.zero_mul] at d0
  have e0 : (mks.map (·.dealt)).getD 0 0 = mks[0].dealt := by simp [List.getD, show 0 < mks.length by omega]
  rw [e0]
  rw [hg] at c4
  have HG := hide hg
  have WH := hide (fun wx (hb : Below w.heap.size w wx) n => iWhole_gen wx (hi.below hb) n)
  have HD := hide hd
  clear h hg hi hd e0
  have K : ∀ k, k < mks.length → minOf ((mks.take (k + 1)).map (·.dealt)) mks[0].dealt = min (minOf ((mks.take k).map (·.dealt)) mks[0].dealt) (mks.getD k ⟨0, 0⟩).dealt := by
    intro k hk
    have app : ∀ (l : List Nat) (x a : Nat), minOf (l ++ [x]) a = min (minOf l a) x := by
      intro l
      induction l with
      | nil => intro x a; rfl
      | cons y l ih => intro x a; exact ih x _
    rw [List.take_succ_eq_append_getElem hk, List.map_append, List.map_singleton, app]
    simp [List.getD, hk]
  have HK := hide K
  clear K
  generalize hd0 : mks[0].dealt = D0 at *
  go_enter Try.func30, Try.ntmps30
  go_wp2
  go_loopw [4, 6, 19] (fun n _ i wr => ∃ k : Nat, k ≤ mks.length ∧ i = .int .i64 k ∧ n = .int .i64 (minOf ((mks.take k).map (·.dealt)) D0) ∧ Below w.heap.size w wr) (fun _ _ i _ => mks.length - (intOf i).toNat)
  case atStart => exact ⟨0, Nat.zero_le _, rfl, rfl, Below.refl _ _⟩
  case round =>
    obtain ⟨k, hk, rfl, rfl, hb⟩ := hrel
    by_cases hlt : k < mks.length
    · obtain ⟨g', hg', _, e0, e1⟩ := (H.out.below hb).maker (List.getElem?_eq_getElem hlt)
      obtain rfl : g' = g := by rw [HG.out] at hg'; simpa using hg'.symm
      have HM := hide (HK.out k hlt)
      have ed : (mks.getD k ⟨0, 0⟩) = mks[k] := by simp [List.getD, hlt]
      rw [ed] at HM
      have hdk := HD.out mks[k] (List.getElem_mem hlt)
      have HB := hide hb
      generalize mks[k] = mk at *
      generalize minOf ((mks.take k).map (·.dealt)) D0 = cur at *
      have hwr : IntKind.i64.wrap ((k : Int) + 1) = ((k + 1 : Nat) : Int) := by rw [IntKind.wrap_i64]; omega
      have hlt' : (k : Int) < (mks.length : Int) := by omega
      clear hg' hb ed d0 c4
      go_wp2
      refine ⟨⟨k + 1, by omega, by simp, ?_, below_on HB.out (below_alloc1 _ _)⟩, by simp [intOf]; omega⟩
      rw [HM.out]
      split
      · rename_i h; rw [Nat.min_eq_right (by omega)]
      · rename_i h; rw [Nat.min_eq_left (by omega)]
    · obtain rfl : k = mks.length := by omega
      rw [List.take_length] at *
      have HB := hide hb
      clear c4 d0 hb
      generalize hcur : minOf (mks.map (·.dealt)) D0 = cur at *
      have HC := hide hcur
      clear hcur
      go_wp2_with (go_at_call 58; refine (WH.out _ HB.out cur).mono ?_; rintro e w' ⟨rfl, rfl⟩)
      go_ret2
      exact ⟨by rw [HC.out]; rfl, HB.out⟩

set_option maxHeartbeats 2000000 in
set_option maxRecDepth 100000 in
theorem plive_gen {b : Nat} {mks : List SMk} {mkS : Sl} (w : World) (h : MkAt w b mks mkS) (F : Nat → Nat → Option Sl) (hm : ∀ i m, mks[i]? = some m → IMapAt w m.g (F i)) (hk : ∀ i k s, F i k = some s → k < 24) (hl : ∀ n, sumTo (fun i => liveOf (F i)) n ≤ 100000) :
    Calls Try.prog 35 #[.pointer (some ⟨b, 0, none⟩)] w fun e w' => e = .returned (.int .i64 (sumTo (fun i => liveOf (F i)) mks.length)) ∧ Below w.heap.size w w' := by
  have c4 := h.c4
  rw [h.n] at c4
  have h8 := h.m8
  have h1 := h.m1
  have H := hide h
  obtain ⟨g, hg, hgl, _, _⟩ := h.maker (List.getElem?_eq_getElem (show 0 < mks.length by omega))
  rw [hg] at c4
  have HG := hide hg
  have HM := hide hm
  have HK := hide hk
  have HL := hide hl
  clear h hg hm hk hl
  go_enter Try.func35, Try.ntmps35
  go_wp2
  go_loopw [3, 11] (fun n i wr => ∃ k : Nat, k ≤ mks.length ∧ i = .int .i64 k ∧ n = .int .i64 (sumTo (fun i => liveOf (F i)) k) ∧ Below w.heap.size w wr) (fun _ i _ => mks.length - (intOf i).toNat)
  case atStart => exact ⟨0, Nat.zero_le _, rfl, rfl, Below.refl _ _⟩
  case round =>
    obtain ⟨k, hk, rfl, rfl, hb⟩ := hrel
    by_cases hlt : k < mks.length
    · obtain ⟨g', hg', _, e0, e1⟩ := (H.out.below hb).maker (List.getElem?_eq_getElem hlt)
      obtain rfl : g' = g := by rw [HG.out] at hg'; simpa using hg'.symm
      have hl1 := HL.out (k + 1)
      have HS := hide (show sumTo (fun i => liveOf (F i)) (k + 1) = sumTo (fun i => liveOf (F i)) k + liveOf (F k) from rfl)
      rw [HS.out] at hl1
      have ML := hide (fun wx (hbx : Below wr.heap.size wr wx) => mLive_any mks[k].g (F k) wx (((HM.out k mks[k] (List.getElem?_eq_getElem hlt)).below hb).below hbx) (HK.out k) (by omega))
      have HB := hide hb
      generalize mks[k] = mk at *
      generalize liveOf (F k) = L at *
      generalize sumTo (fun i => liveOf (F i)) k = cur at *
      have hwr : IntKind.i64.wrap ((k : Int) + 1) = ((k + 1 : Nat) : Int) := by rw [IntKind.wrap_i64]; omega
      have hwr2 : IntKind.i64.wrap ((cur : Int) + (L : Int)) = ((cur + L : Nat) : Int) := by rw [IntKind.wrap_i64]; omega
      have hlt' : (k : Int) < (mks.length : Int) := by omega
      clear hg' hb c4
      go_wp2_with fail
      refine (ML.out _ (below_alloc1 _ _)).mono ?_
      rintro e wx ⟨rfl, hbx⟩
      have HX := hide (below_on HB.out (below_alloc hbx))
      clear hbx ML HB
      go_wp2
      go_roundw
      case rel => exact ⟨k + 1, by omega, by go_num, by rw [HS.out]; simp, HX.out⟩
      case measure => simp [intOf]; omega
    · obtain rfl : k = mks.length := by omega
      go_wp2
      go_ret
      exact ⟨rfl, hb⟩

end Go.Proofs.Ytlheloogmgmjnaa
