import Derived.Test.YtlheloogmgmjnaaGreatAppend
import Derived.Test.YtlheloogmgmjnaaGreatOwnSet
import Derived.Test.YtlheloogmgmjnaaGreatRefRead
namespace Go.Proofs.YtlheloogmgmjnaaGreat
open Go.RowKit

/-- A transaction that came in: its lists; has it ended; its result. -/
structure PRec where
  h : TH
  ended : Bool
  ab : Bool
  out : Int

def PRec.row (r : PRec) : List Value := [.slice r.h.r.a r.h.r.n r.h.r.c, .slice r.h.w.a r.h.w.n r.h.w.c, .slice r.h.c.a r.h.c.n r.h.c.c, .bool r.ended, .bool r.ab, .int .i64 r.out]

/-- The program's store ahead of all steps: where it lies. -/
structure PM where
  b : Nat
  room : Nat
  taken : Nat
  recs : List PRec
  rcS : Sl
  ends : List Nat
  enS : Sl
  mbs : List Nat
  mkS : Sl
  doS : Sl

def PM.row (M : PM) : List Value := [.int .i64 M.room, .int .i64 M.taken, .slice M.rcS.a M.rcS.n M.rcS.c, .slice M.enS.a M.enS.n M.enS.c, .slice M.mkS.a M.mkS.n M.mkS.c, .slice M.doS.a M.doS.n M.doS.c, .int .i64 0]
def mkCells (l : List Nat) : List Value := l.flatMap fun g => [.int .i64 0, .map (some g)]
def PM.mut (M : PM) : List Nat := M.b :: (M.rcS.blk ++ M.enS.blk)
def PM.imm (M : PM) : List Nat := M.mkS.blk ++ M.mbs
def PM.foot (M : PM) : List Nat := M.mut ++ M.imm
def PM.closed (M : PM) : Nat := M.ends.getD (M.ends.length - 1) 0

structure PAt (w : World) (M : PM) : Prop where
  row : RowAt w M.b 98 M.row
  rc : Own w 158 6 M.rcS (M.recs.flatMap PRec.row)
  rcn : M.rcS.n = M.recs.length
  en : Own w 3 1 M.enS (ints (nats M.ends))
  enn : M.enS.n = M.ends.length
  mkO : Own w 126 2 M.mkS (mkCells M.mbs)
  mkn : M.mkS.n = M.mbs.length
  mk1 : 1 ≤ M.mbs.length
  mk8 : M.mbs.length ≤ 8
  maps : ∀ g ∈ M.mbs, w.heap[g]? = some (.map #[] 0)
  nodup : M.mut.Nodup
  apart : ∀ k ∈ M.imm, k ∉ M.mut
  fresh : ∀ r ∈ M.recs, r.ended = false
  txns : M.recs.length ≤ 150
  room500 : M.room ≤ 500
  taken500 : M.taken ≤ M.room
  ends1 : M.ends.length ≤ M.recs.length
  ends2 : M.ends.length ≤ M.closed
  endsle : ∀ e ∈ M.ends, 1 ≤ e ∧ e ≤ M.recs.length

theorem blk_of_map {w : World} {g : Nat} {o : Obj} (h : w.heap[g]? = some o) : g < w.heap.size := by
  by_cases hb : g < w.heap.size
  · exact hb
  · rw [Array.getElem?_eq_none (by omega)] at h; cases h

theorem PAt.foot_lt {w : World} {M : PM} (h : PAt w M) : ∀ k ∈ M.foot, k < w.heap.size := by
  intro k hk
  simp only [PM.foot, PM.mut, PM.imm, List.mem_cons, List.mem_append] at hk
  rcases hk with (hk | hk | hk) | hk | hk
  · rw [hk]; exact h.row.lt
  · exact h.rc.blk_lt k hk
  · exact h.en.blk_lt k hk
  · exact h.mkO.blk_lt k hk
  · exact blk_of_map (h.maps k hk)

theorem PAt.chg {w w' : World} {D : Nat → Prop} {M : PM} (h : PAt w M) (hc : Chg w w' D) (hd : ∀ k ∈ M.foot, ¬ D k) : PAt w' M :=
  { h with
    row := h.row.chg hc (hd _ (by simp [PM.foot, PM.mut]))
    rc := h.rc.chg hc (fun k hk => hd k (by simp [PM.foot, PM.mut, hk]))
    en := h.en.chg hc (fun k hk => hd k (by simp [PM.foot, PM.mut, hk]))
    mkO := h.mkO.chg hc (fun k hk => hd k (by simp [PM.foot, PM.imm, hk]))
    maps := fun g hg => by rw [hc.block g (blk_of_map (h.maps g hg)) (hd g (by simp [PM.foot, PM.imm, hg]))]; exact h.maps g hg }

theorem PAt.below {w w' : World} {M : PM} (h : PAt w M) (hb : Below w.heap.size w w') : PAt w' M := h.chg (Chg.of_below hb (fun _ => False)) (fun _ _ => id)
theorem PAt.drewN {w : World} {M : PM} (h : PAt w M) (n : Nat) : PAt (w.drewN n) M := h.below (below_drewN (Below.refl _ _) n)

theorem PAt.closed_le {w : World} {M : PM} (h : PAt w M) : M.closed ≤ M.recs.length := by
  unfold PM.closed
  by_cases h0 : M.ends.length = 0
  · rw [List.eq_nil_of_length_eq_zero h0]; simp
  · have hk : M.ends.length - 1 < M.ends.length := by omega
    rw [nat_get hk]; exact (h.endsle _ (List.getElem_mem hk)).2

/-! ### The calls that read -/

set_option maxHeartbeats 400000 in
theorem iTxns_any (M : PM) (w : World) (h : PAt w M) :
    Calls Tryz.prog 56 #[.pointer (some ⟨M.b, 2, none⟩)] w fun e w' => e = .returned (.int .i64 M.recs.length) ∧ w' = w := by
  have c2 := h.row.cell' (i := 2) (v := .slice M.rcS.a M.rcS.n M.rcS.c) rfl
  rw [h.rcn] at c2
  clear h
  go_enter Tryz.func56, Tryz.ntmps56
  go_wp2
  go_ret
  exact ⟨rfl, rfl⟩

set_option maxHeartbeats 400000 in
theorem iBatches_any (M : PM) (w : World) (h : PAt w M) :
    Calls Tryz.prog 60 #[.pointer (some ⟨M.b, 2, none⟩)] w fun e w' => e = .returned (.int .i64 M.ends.length) ∧ w' = w := by
  have c3 := h.row.cell' (i := 3) (v := .slice M.enS.a M.enS.n M.enS.c) rfl
  rw [h.enn] at c3
  clear h
  go_enter Tryz.func60, Tryz.ntmps60
  go_wp2
  go_ret
  exact ⟨rfl, rfl⟩

/-- The last of so many batches. -/
def PM.lastOf (M : PM) (k : Nat) : Nat := if k = 0 then 0 else M.ends.getD (k - 1) 0

set_option maxHeartbeats 1000000 in
set_option maxRecDepth 100000 in
theorem ilastOf_any (M : PM) (w : World) (h : PAt w M) (k : Nat) (hk : k ≤ M.ends.length) :
    Calls Tryz.prog 120 #[.pointer (some ⟨M.b, 2, none⟩), .int .i64 k] w fun e w' => e = .returned (.int .i64 (M.lastOf k)) ∧ w' = w := by
  have c3 := h.row.cell' (i := 3) (v := .slice M.enS.a M.enS.n M.enS.c) rfl
  rw [h.enn] at c3
  have hI := h.en.ints
  have ht := h.txns
  have ht1 := h.ends1
  clear h
  by_cases h0 : k = 0
  · subst h0
    go_enter Tryz.func120, Tryz.ntmps120
    go_wp2
    go_ret
    exact ⟨ret_int (by simp [PM.lastOf]), rfl⟩
  · obtain ⟨b, o, hb, hc, _⟩ := hI.at (k := k - 1) (by simp [nats]; omega)
    have hck := hc (k - 1) (by simp [nats]; omega)
    have hv : (nats M.ends).getD (k - 1) 0 = (M.ends.getD (k - 1) 0 : Nat) := by simp [nats, List.getD, List.getElem?_map]; rcases M.ends[k - 1]? <;> rfl
    rw [hv] at hck
    have HV := hide (show M.lastOf k = M.ends.getD (k - 1) 0 by simp [PM.lastOf, h0])
    rw [hb] at c3
    generalize M.ends.getD (k - 1) 0 = v at *
    obtain ⟨j, rfl⟩ : ∃ j, k = j + 1 := ⟨k - 1, by omega⟩
    simp only [Nat.add_sub_cancel] at hck
    have hj0 : ¬ ((j : Int) + 1 = 0) := by omega
    clear hc hI hb hv h0
    go_enter Tryz.func120, Tryz.ntmps120
    go_wp2
    go_ret
    exact ⟨ret_int (by rw [HV.out]), rfl⟩

end Go.Proofs.YtlheloogmgmjnaaGreat
