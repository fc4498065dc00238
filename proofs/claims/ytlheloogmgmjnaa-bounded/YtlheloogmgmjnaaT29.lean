import Derived.Test.YtlheloogmgmjnaaT26
import Derived.Test.YtlheloogmgmjnaaT04
import Derived.Test.YtlheloogmgmjnaaT22
import Derived.Test.YtlheloogmgmjnaaT23
import Derived.Test.YtlheloogmgmjnaaT13
import Derived.Test.YtlheloogmgmjnaaT28
import Derived.Test.YtlheloogmgmjnaaT12
import Derived.Test.YtlheloogmgmjnaaT18
import Derived.Test.YtlheloogmgmjnaaT24
namespace Go.Proofs.Ytlheloogmgmjnaa
open Go.RowKit

/-- What a maker makes of the first j keys that a transaction writes. -/
def madeVs (M : SM) (i txn : Nat) (ws : List Int) (j : Nat) : Nat → List Ver := fun k => M.vs k ++ (if (k : Int) ∈ ws.take j ∧ k % M.mks.length = i then [⟨txn, 0, 0, false⟩] else [])
def SM.mades (M : SM) (i txn : Nat) (ws : List Int) (j : Nat) (vS : Nat → Option Sl) : SM := { M with vs := madeVs M i txn ws j, vS := vS }

theorem mades_zero (M : SM) (i txn : Nat) (ws : List Int) : M.mades i txn ws 0 M.vS = M := by
  unfold SM.mades madeVs
  simp
theorem mem_take_succ {ws : List Int} {j : Nat} {kn : Nat} (hj : ws[j]? = some (kn : Int)) (k : Nat) : ((k : Int) ∈ ws.take (j + 1)) ↔ ((k : Int) ∈ ws.take j ∨ k = kn) := by
  rw [List.take_add_one, hj]
  simp only [Option.toList_some, List.mem_append, List.mem_singleton]
  constructor
  · rintro (h | h)
    · exact Or.inl h
    · exact Or.inr (by omega)
  · rintro (h | h)
    · exact Or.inl h
    · exact Or.inr (by omega)
theorem mades_no (M : SM) (i txn : Nat) (ws : List Int) (j : Nat) (vS : Nat → Option Sl) {kn : Nat} (hj : ws[j]? = some (kn : Int)) (hn : kn % M.mks.length ≠ i) : M.mades i txn ws (j + 1) vS = M.mades i txn ws j vS := by
  unfold SM.mades
  congr 1
  funext k
  unfold madeVs
  have := mem_take_succ hj k
  by_cases e : k = kn
  · subst e; simp [hn]
  · simp only [e, or_false] at this; simp [this]
theorem mades_yes (M : SM) (i txn : Nat) (ws : List Int) (j : Nat) (vS : Nat → Option Sl) {kn : Nat} (hj : ws[j]? = some (kn : Int)) (hn : kn % M.mks.length = i) (hap : (kn : Int) ∉ ws.take j) (s : Sl) :
    (M.mades i txn ws j vS).make kn txn s = M.mades i txn ws (j + 1) (fun k => if k = kn then some s else vS k) := by
  unfold SM.mades SM.make
  simp only
  congr 1
  funext k
  unfold madeVs
  have := mem_take_succ hj k
  by_cases e : k = kn
  · subst e; simp only [or_true, iff_true] at this; simp [hn, hap, this]
  · simp only [e, or_false] at this; simp [this, e]

set_option maxHeartbeats 2000000 in
set_option maxRecDepth 100000 in
theorem makerStep_no (M : SM) (w : World) (h : SAt w M) (i : Nat) (m : SMk) (hi : M.mks[i]? = some m) (hd : m.dealt = M.closed) :
    Calls Try.prog 27 #[.pointer (some ⟨M.b, 0, none⟩), .int .i64 i] w fun e w' => e = .returned (.bool false) ∧ Below w.heap.size w w' := by
  have c4 := h.mkAt.c4
  rw [h.mkn] at c4
  obtain ⟨g, hg, hgl, e0, e1⟩ := h.mkAt.maker hi
  have hil : i < M.mks.length := by
    by_cases hb : i < M.mks.length
    · exact hb
    · rw [List.getElem?_eq_none (by omega)] at hi; cases hi
  rw [hg] at c4
  have CL := hide (fun n => iClosed_gen (w.drewN n) (h.below (below_drewN (Below.refl _ _) n)).inAt)
  change Hid (∀ n, Calls Try.prog 49 #[.pointer (some ⟨M.b, 2, none⟩)] (w.drewN n) fun e w' => e = .returned (.int .i64 M.closed) ∧ w' = w.drewN n) at CL
  rw [hd] at e0
  have hil' : (i : Int) < (M.mks.length : Int) := by omega
  clear h hg hi hd
  generalize M.closed = C at *
  go_enter Try.func27, Try.ntmps27
  go_wp2
  go_quiet ((go_at_call 49; exact Calls.quiet_of_same (CL.out _)))
  go_wp2
  go_ret
  exact ⟨rfl, below_drewN (Below.refl _ _) _⟩

theorem run_field_txn (a b c : Option Addr) (an ac bn bc cn cc : Nat) (w : World) : (Instr.field 25 (.agg #[.slice a an ac, .slice b bn bc, .slice c cn cc]) 1).run Try.prog w = .ok (.slice b bn bc) w := by kernel_rfl

set_option maxHeartbeats 4000000 in
set_option maxRecDepth 100000 in
theorem makerStep_yes (M : SM) (w : World) (h : SAt w M) (i : Nat) (m : SMk) (hi : M.mks[i]? = some m) (hd : m.dealt < M.closed) (hdr : m.dealt < M.recs.length) (r : PRec) (t : Tx) (hr : M.recs[m.dealt]? = some r) (ht : M.txs[m.dealt]? = some t) (hen : r.ended = false) (hvl : ∀ k, (M.vs k).length ≤ 500) :
    Calls Try.prog 27 #[.pointer (some ⟨M.b, 0, none⟩), .int .i64 i] w fun e w' => e = .returned (.bool true) ∧
      ∃ vS, SAt w' ((M.deal i (m.dealt + 1) m).mades i (m.dealt + 1) t.w t.w.length vS) ∧ Chg w w' (fun k => k ∈ M.mut) ∧ (∀ k ∈ ((M.deal i (m.dealt + 1) m).mades i (m.dealt + 1) t.w t.w.length vS).foot, k ∈ M.foot ∨ w.heap.size ≤ k) := by
  have c4 := h.mkAt.c4
  rw [h.mkn] at c4
  obtain ⟨g, hg, hgl, e0, e1⟩ := h.mkAt.maker hi
  have hil : i < M.mks.length := by
    by_cases hb : i < M.mks.length
    · exact hb
    · rw [List.getElem?_eq_none (by omega)] at hi; cases hi
  have htx := h.txns
  have CL := hide (fun n => iClosed_gen (w.drewN n) (h.below (below_drewN (Below.refl _ _) n)).inAt)
  change Hid (∀ n, Calls Try.prog 49 #[.pointer (some ⟨M.b, 2, none⟩)] (w.drewN n) fun e w' => e = .returned (.int .i64 M.closed) ∧ w' = w.drewN n) at CL
  have hil' : (i : Int) < (M.mks.length : Int) := by omega
  have hf := h.mO.frozen hg (i * 2)
  have HS := hide (sAt_deal h (d := m.dealt + 1) hi hg)
  have HG := hide hg
  have H := hide h
  have hgm : g ∈ M.mut := SM.mem_mut.2 (Or.inl (by simp only [SM.base, List.mem_cons, List.mem_append]; exact Or.inr (Or.inr (Or.inr (Or.inl (by simp [Sl.blk, hg]))))))
  rw [hg] at c4
  have hdc : decide (m.dealt = M.closed) = false := by simp; omega
  have hneq : ¬ ((m.dealt : Int) = (M.closed : Int)) := by omega
  have hwr : IntKind.i64.wrap ((m.dealt : Int) + 1) = ((m.dealt + 1 : Nat) : Int) := by rw [IntKind.wrap_i64]; omega
  clear h hg
  go_enter Try.func27, Try.ntmps27
  go_wp2
  go_quiet ((go_at_call 49; exact Calls.quiet_of_same (CL.out _)))
  go_wp2_with fail
  have HS1 := hide (sAt_deal (H.out.below (below_drewN (Below.refl _ _) nq)) (d := m.dealt + 1) hi HG.out)
  have C1 := hide (((Chg.of_below (below_drewN (Below.refl w.heap.size w) nq) (fun k => k ∈ M.mut)).trans ((Chg.setCell (w.drewN nq) ⟨g, i * 2, none⟩ (.int .i64 (m.dealt + 1 : Nat))).mono (fun k _ (e : k = g) => e ▸ hgm))))
  simp only [Int.natCast_add, Int.natCast_one] at HS1 C1
  have hi1 : (M.deal i (m.dealt + 1) m).mks[i]? = some { m with dealt := m.dealt + 1 } := by simp [SM.deal, hil]
  have HM1 := hide (show (M.deal i (m.dealt + 1) m).b = M.b ∧ (M.deal i (m.dealt + 1) m).recs = M.recs ∧ (M.deal i (m.dealt + 1) m).mkS = M.mkS ∧ (M.deal i (m.dealt + 1) m).txs = M.txs ∧ (M.deal i (m.dealt + 1) m).mks.length = M.mks.length ∧ (M.deal i (m.dealt + 1) m).mut = M.mut ∧ (M.deal i (m.dealt + 1) m).vs = M.vs from ⟨rfl, rfl, rfl, rfl, by simp [SM.deal], by unfold SM.mut SM.base SM.vblks SM.deal; simp only [set_map_g M.mks i _ m hi]; rfl, rfl⟩)
  clear c4 e0 e1 hf HS CL
  generalize (w.drewN nq).setCell ⟨g, i * 2, none⟩ (.int .i64 ((m.dealt : Int) + 1)) = w1 at *
  generalize hM1 : M.deal i (m.dealt + 1) m = M1 at *
  have HE := hide hM1
  clear hM1
  refine wp_region_U (L := #[true, true, true, true, true, true, true, true, true, true, true]) (S := (fun w' => SAt w' M1 ∧ Below w1.heap.size w1 w')) (by kernel_rfl) ⟨HS1.out.below (below_drewN (Below.refl _ _) 1), (Below.refl _ _).drew⟩ ?_
  refine wpU_takeC (i := 0) (v := ?_) rfl (by kernel_rfl) (by kernel_rfl) (by kernel_rfl) (by kernel_rfl) (by kernel_rfl) (fun _ _ _ h => h) (by rfl) ?_ ?_
  rotate_left
  · intro wx hS; refine lands_value ?_ hS; go_simp <;> with_reducible rfl
  try simp only [List.getElem_toArray, List.getElem_cons_zero, Act.put, List.setIfInBounds_toArray, List.set_cons_zero, List.set_cons_succ]
  refine wpU_takeC (i := 1) (v := ?_) rfl (by kernel_rfl) (by kernel_rfl) (by kernel_rfl) (by kernel_rfl) (by kernel_rfl) (fun _ _ _ h => h) (by rfl) ?_ ?_
  rotate_left
  · intro wx hS; refine lands_value ?_ hS; go_simp <;> with_reducible rfl
  try simp only [List.getElem_toArray, List.getElem_cons_zero, List.getElem_cons_succ, Act.put, List.setIfInBounds_toArray, List.set_cons_zero, List.set_cons_succ]
  refine wpU_takeC (i := 2) (v := ?_) rfl (by kernel_rfl) (by kernel_rfl) (by kernel_rfl) (by kernel_rfl) (by kernel_rfl) (fun _ _ _ h => h) (by rfl) ?_ ?_
  rotate_left
  · intro wx hS; refine lands_value ?_ hS; go_simp <;> with_reducible rfl
  try simp only [List.getElem_toArray, List.getElem_cons_zero, List.getElem_cons_succ, Act.put, List.setIfInBounds_toArray, List.set_cons_zero, List.set_cons_succ]
  refine wpU_takeC (i := 3) (v := ?_) rfl (by kernel_rfl) (by kernel_rfl) (by kernel_rfl) (by kernel_rfl) (by kernel_rfl) (fun _ _ _ h => h) (by rfl) ?_ ?_
  rotate_left
  · intro wx hS; refine lands_value ?_ hS; go_simp <;> with_reducible rfl
  try simp only [List.getElem_toArray, List.getElem_cons_zero, List.getElem_cons_succ, Act.put, List.setIfInBounds_toArray, List.set_cons_zero, List.set_cons_succ]
  refine wpU_takeC (i := 4) (v := ?_) rfl (by kernel_rfl) (by kernel_rfl) (by kernel_rfl) (by kernel_rfl) (by kernel_rfl) (fun _ _ _ h => h) (by rfl) ?_ ?_
  rotate_left
  · intro wx hS; refine lands_value ?_ hS; go_simp <;> with_reducible rfl
  try simp only [List.getElem_toArray, List.getElem_cons_zero, List.getElem_cons_succ, Act.put, List.setIfInBounds_toArray, List.set_cons_zero, List.set_cons_succ]
  refine wpU_takeC (i := 5) (v := ?_) rfl (by kernel_rfl) (by kernel_rfl) (by kernel_rfl) (by kernel_rfl) (by kernel_rfl) (fun _ _ _ h => h) (by rfl) ?_ ?_
  rotate_left
  · intro wx hS; refine lands_value ?_ hS; go_simp <;> with_reducible rfl
  try simp only [List.getElem_toArray, List.getElem_cons_zero, List.getElem_cons_succ, Act.put, List.setIfInBounds_toArray, List.set_cons_zero, List.set_cons_succ]
  refine wpU_takeC (i := 6) (v := ?_) rfl (by kernel_rfl) (by kernel_rfl) (by kernel_rfl) (by kernel_rfl) (by kernel_rfl) (fun _ _ _ h => h) (by rfl) ?_ ?_
  rotate_left
  · intro wx hS; obtain ⟨g', hg', _, e0, _⟩ := hS.1.mkAt.maker hi1; obtain rfl : g' = g := (by rw [HM1.out.2.2.1, HG.out] at hg'; simpa using hg'.symm); refine lands_value ?_ hS; go_simp <;> with_reducible rfl
  try simp only [List.getElem_toArray, List.getElem_cons_zero, List.getElem_cons_succ, Act.put, List.setIfInBounds_toArray, List.set_cons_zero, List.set_cons_succ]
  refine wpU_takeC (i := 7) (v := .agg #[.slice r.h.r.a r.h.r.n r.h.r.c, .slice r.h.w.a r.h.w.n r.h.w.c, .slice r.h.c.a r.h.c.n r.h.c.c]) rfl (by kernel_rfl) (by kernel_rfl) (by kernel_rfl) (by kernel_rfl) (by kernel_rfl) (fun _ _ _ h => h) (by rfl) ?_ ?_
  · intro wx hS; refine lands_enter (w := wx) (f := 50) (args := #[.pointer (some ⟨M.b, 2, none⟩), .int .i64 (m.dealt + 1 : Nat)]) (by go_simp) ?_; refine (iTxn_gen (b := M.b) (recs := M.recs) wx (by have := hS.1.inAt; rw [HM1.out.1, HM1.out.2.1] at this; exact this) m.dealt r hr (by have := hS.1.row.lt; rw [HM1.out.1] at this; exact this)).mono ?_; rintro e w2 ⟨rfl, hb⟩; exact ⟨rfl, hS.1.below hb, below_on hS.2 hb⟩
  try simp only [List.getElem_toArray, List.getElem_cons_zero, List.getElem_cons_succ, Act.put, List.setIfInBounds_toArray, List.set_cons_zero, List.set_cons_succ]
  refine wpU_takeC (i := 8) (v := ?_) rfl (by kernel_rfl) (by kernel_rfl) (by kernel_rfl) (by kernel_rfl) (by kernel_rfl) (fun _ _ _ h => h) (by rfl) ?_ ?_
  rotate_left
  · intro wx hS; have hfl := run_field_txn r.h.r.a r.h.w.a r.h.c.a r.h.r.n r.h.r.c r.h.w.n r.h.w.c r.h.c.n r.h.c.c wx; refine lands_value ?_ hS; go_simp <;> with_reducible rfl
  try simp only [List.getElem_toArray, List.getElem_cons_zero, List.getElem_cons_succ, Act.put, List.setIfInBounds_toArray, List.set_cons_zero, List.set_cons_succ]
  refine wpU_takeC (i := 9) (v := ?_) rfl (by kernel_rfl) (by kernel_rfl) (by kernel_rfl) (by kernel_rfl) (by kernel_rfl) (fun _ _ _ h => h) (by rfl) ?_ ?_
  rotate_left
  · intro wx hS; refine lands_value ?_ hS; go_simp <;> with_reducible rfl
  try simp only [List.getElem_toArray, List.getElem_cons_zero, List.getElem_cons_succ, Act.put, List.setIfInBounds_toArray, List.set_cons_zero, List.set_cons_succ]
  refine wpU_takeC (i := 10) (v := ?_) rfl (by kernel_rfl) (by kernel_rfl) (by kernel_rfl) (by kernel_rfl) (by kernel_rfl) (fun _ _ _ h => h) (by rfl) ?_ ?_
  rotate_left
  · intro wx hS; refine lands_value ?_ hS; go_simp <;> with_reducible rfl
  try simp only [List.getElem_toArray, List.getElem_cons_zero, List.getElem_cons_succ, Act.put, List.setIfInBounds_toArray, List.set_cons_zero, List.set_cons_succ]
  refine wpU_leaf' _ (by kernel_rfl) ?_
  intro wx hS
  refine wpAny_none _ (by kernel_rfl) ?_
  have SX := hide hS.1
  have CX := hide ((C1.out.trans (Chg.of_below hS.2 _)).mono (E := fun k => k ∈ M.mut ∨ w.heap.size ≤ k) (fun k _ hk => Or.inl hk))
  have hOT := (hS.1.txn m.dealt r t (by rw [HM1.out.2.1]; exact hr) (by rw [HM1.out.2.2.2.1]; exact ht) hen)
  have hwn := hOT.1.wn
  have hkeys := (checkN_sound t hOT.2.1).2.2.2.2.1
  have hapart := checkN_apart hOT.2.1
  have hw6 := (checkN_sound t hOT.2.1).2.2.1
  have HOT := hide (show checkN t = 0 from hOT.2.1)
  clear hS hOT HS1 C1
  rw [hwn]
  generalize hwa : r.h.w.a = wa
  have HWA := hide hwa
  clear hwa
  try simp only [Act.put]
  have hbq : ((m.dealt : Int) == (M.closed : Int)) = false := by simp; omega
  simp only [hbq]
  clear hneq hdc hbq
  go_wp2
  go_loopw [7, 40] (fun _ ix wr => ∃ (j : Nat) (vS : Nat → Option Sl), j ≤ t.w.length ∧ ix = .int .i64 j ∧ SAt wr (M1.mades i (m.dealt + 1) t.w j vS) ∧ Chg w wr (fun k => k ∈ M.mut ∨ w.heap.size ≤ k) ∧ (∀ k, k < 24 → ∀ x ∈ ((vS k).getD Sl.nil).blk, x ∈ M.mut ∨ w.heap.size ≤ x)) (fun _ ix _ => t.w.length - (intOf ix).toNat)
  case atStart => exact ⟨0, M1.vS, Nat.zero_le _, rfl, by rw [mades_zero]; exact SX.out, CX.out, fun k hk x hx => Or.inl (by rw [← HM1.out.2.2.2.2.2.1]; exact SM.mem_mut.2 (Or.inr ⟨k, hk, hx⟩))⟩
  case round =>
    obtain ⟨j, vS, hj, rfl, hSj, hCj, hBj⟩ := hrel
    by_cases hjl : j < t.w.length
    · obtain ⟨hk0, hk24⟩ := hkeys t.w[j] (List.getElem_mem hjl)
      obtain ⟨kn, hkn⟩ : ∃ kn : Nat, t.w[j] = kn := ⟨t.w[j].toNat, (Int.toNat_of_nonneg hk0).symm⟩
      have hkn24 : kn < 24 := by omega
      have hjk : t.w[j]? = some (kn : Int) := by rw [List.getElem?_eq_getElem hjl, hkn]
      have hnot : (kn : Int) ∉ t.w.take j := by
        intro hm
        obtain ⟨q, hq, hqe⟩ := List.mem_take_iff_getElem.1 hm
        have := twice_none hapart (i := q) (j := j) (by omega) hjl
        rw [List.getD, List.getD, List.getElem?_eq_getElem (show q < t.w.length by omega), List.getElem?_eq_getElem hjl] at this
        exact this (by simp only [Option.getD_some]; rw [hkn]; exact hqe)
      have hOT := (hSj.txn m.dealt r t (by show M1.recs[m.dealt]? = _; rw [HM1.out.2.1]; exact hr) (by show M1.txs[m.dealt]? = _; rw [HM1.out.2.2.2.1]; exact ht) hen).1
      obtain ⟨bw, ow, hbw, hcw, _⟩ := hOT.wO.ints.at hjl
      have kc := hcw j hjl
      have hgd : t.w.getD j 0 = (kn : Int) := by rw [List.getD, hjk]; rfl
      rw [hgd] at kc
      have hMk : MkAt wr M.b M1.mks M.mkS := by
        have := hSj.mkAt
        have e1 : (M1.mades i (m.dealt + 1) t.w j vS).b = M.b := HM1.out.1
        have e2 : (M1.mades i (m.dealt + 1) t.w j vS).mkS = M.mkS := HM1.out.2.2.1
        rw [e1, e2] at this
        exact this
      have MO := hide (makerOf_gen wr hMk kn hkn24)
      obtain ⟨g', hg', hgl', e0, e1⟩ := hMk.maker hi1
      obtain rfl : g' = g := by rw [HG.out] at hg'; simpa using hg'.symm
      have hjl' : (j : Int) < (t.w.length : Int) := by omega
      have hwj : IntKind.i64.wrap ((j : Int) + 1) = ((j + 1 : Nat) : Int) := by rw [IntKind.wrap_i64]; omega
      have HSj := hide hSj
      have HCj := hide hCj
      have HBj := hide hBj
      have hlen : M1.mks.length = M.mks.length := HM1.out.2.2.2.2.1
      obtain rfl : wa = some ⟨bw, ow, none⟩ := HWA.out.symm.trans hbw
      clear hcw hOT hSj hCj hBj hMk hg' hgd hbw
      by_cases hq : kn % M1.mks.length = i
      · have HV := hide (vMake_any m.g ((M1.mades i (m.dealt + 1) t.w j vS).mapOf i) kn (m.dealt + 1) ((M1.mades i (m.dealt + 1) t.w j vS).vs kn) wr.drew ((HSj.out.below (below_drewN (Below.refl _ _) 1)).maps i ⟨m.dealt + 1, m.g⟩ hi1)
          (by
            have e : ((M1.mades i (m.dealt + 1) t.w j vS).mapOf i kn).getD Sl.nil = (M1.mades i (m.dealt + 1) t.w j vS).vsl kn := by
              show (if kn % M1.mks.length = i then vS kn else none).getD Sl.nil = (vS kn).getD Sl.nil
              rw [if_pos hq]
            rw [e]; exact (HSj.out.below (below_drewN (Below.refl _ _) 1)).vers kn hkn24)
          (by
            show (M1.vs kn ++ _).length ≤ 1000
            rw [HM1.out.2.2.2.2.2.2, List.length_append]
            have := hvl kn
            split <;> simp <;> omega)
          (by
            have e : ((M1.mades i (m.dealt + 1) t.w j vS).mapOf i kn).getD Sl.nil = (M1.mades i (m.dealt + 1) t.w j vS).vsl kn := by
              show (if kn % M1.mks.length = i then vS kn else none).getD Sl.nil = (vS kn).getD Sl.nil
              rw [if_pos hq]
            rw [e]
            intro k hk e2
            refine HSj.out.vbase kn hkn24 k hk ?_
            have : m.g ∈ (M1.mades i (m.dealt + 1) t.w j vS).mks.map (·.g) := List.mem_map.2 ⟨_, List.mem_of_getElem? hi1, rfl⟩
            rw [e2]
            simp only [SM.base, List.mem_cons, List.mem_append]
            exact Or.inr (Or.inr (Or.inr (Or.inr (Or.inr this))))))
        simp only [Int.natCast_add, Int.natCast_one] at HV
        have e5 : ((M1.mades i (m.dealt + 1) t.w j vS).mapOf i kn).getD Sl.nil = (M1.mades i (m.dealt + 1) t.w j vS).vsl kn := by
          show (if kn % M1.mks.length = i then vS kn else none).getD Sl.nil = (vS kn).getD Sl.nil
          rw [if_pos hq]
        rw [e5] at HV
        have HY := hide (fun s => mades_yes M1 i (m.dealt + 1) t.w j vS hjk hq hnot s)
        have HQ := hide hq
        rw [hq] at MO
        clear e5 hq
        go_wp2_with (go_at_call 51; refine MO.out.mono ?_; rintro e w' ⟨rfl, rfl⟩)
        refine wp_region_U (L := #[true, true, true, true, true, true, true, true, true, false]) (S := (fun wz => wz = w'.drew)) (by kernel_rfl) rfl ?_
        refine wpU_takeC (i := 0) (v := ?_) rfl (by kernel_rfl) (by kernel_rfl) (by kernel_rfl) (by kernel_rfl) (by kernel_rfl) (fun _ _ _ h => h) (by rfl) ?_ ?_
        rotate_left
        · intro wx hS; subst hS; refine lands_value ?_ rfl; go_simp <;> with_reducible rfl
        try simp only [List.getElem_toArray, List.getElem_cons_zero, Act.put, List.setIfInBounds_toArray, List.set_cons_zero, List.set_cons_succ]
        refine wpU_takeC (i := 1) (v := ?_) rfl (by kernel_rfl) (by kernel_rfl) (by kernel_rfl) (by kernel_rfl) (by kernel_rfl) (fun _ _ _ h => h) (by rfl) ?_ ?_
        rotate_left
        · intro wx hS; subst hS; refine lands_value ?_ rfl; go_simp <;> with_reducible rfl
        try simp only [List.getElem_toArray, List.getElem_cons_zero, List.getElem_cons_succ, Act.put, List.setIfInBounds_toArray, List.set_cons_zero, List.set_cons_succ]
        refine wpU_takeC (i := 2) (v := ?_) rfl (by kernel_rfl) (by kernel_rfl) (by kernel_rfl) (by kernel_rfl) (by kernel_rfl) (fun _ _ _ h => h) (by rfl) ?_ ?_
        rotate_left
        · intro wx hS; subst hS; refine lands_value ?_ rfl; go_simp <;> with_reducible rfl
        try simp only [List.getElem_toArray, List.getElem_cons_zero, List.getElem_cons_succ, Act.put, List.setIfInBounds_toArray, List.set_cons_zero, List.set_cons_succ]
        refine wpU_takeC (i := 3) (v := ?_) rfl (by kernel_rfl) (by kernel_rfl) (by kernel_rfl) (by kernel_rfl) (by kernel_rfl) (fun _ _ _ h => h) (by rfl) ?_ ?_
        rotate_left
        · intro wx hS; subst hS; refine lands_value ?_ rfl; go_simp <;> with_reducible rfl
        try simp only [List.getElem_toArray, List.getElem_cons_zero, List.getElem_cons_succ, Act.put, List.setIfInBounds_toArray, List.set_cons_zero, List.set_cons_succ]
        refine wpU_takeC (i := 4) (v := ?_) rfl (by kernel_rfl) (by kernel_rfl) (by kernel_rfl) (by kernel_rfl) (by kernel_rfl) (fun _ _ _ h => h) (by rfl) ?_ ?_
        rotate_left
        · intro wx hS; subst hS; refine lands_value ?_ rfl; go_simp <;> with_reducible rfl
        try simp only [List.getElem_toArray, List.getElem_cons_zero, List.getElem_cons_succ, Act.put, List.setIfInBounds_toArray, List.set_cons_zero, List.set_cons_succ]
        refine wpU_takeC (i := 5) (v := ?_) rfl (by kernel_rfl) (by kernel_rfl) (by kernel_rfl) (by kernel_rfl) (by kernel_rfl) (fun _ _ _ h => h) (by rfl) ?_ ?_
        rotate_left
        · intro wx hS; subst hS; refine lands_value ?_ rfl; go_simp <;> with_reducible rfl
        try simp only [List.getElem_toArray, List.getElem_cons_zero, List.getElem_cons_succ, Act.put, List.setIfInBounds_toArray, List.set_cons_zero, List.set_cons_succ]
        refine wpU_takeC (i := 6) (v := ?_) rfl (by kernel_rfl) (by kernel_rfl) (by kernel_rfl) (by kernel_rfl) (by kernel_rfl) (fun _ _ _ h => h) (by rfl) ?_ ?_
        rotate_left
        · intro wx hS; subst hS; refine lands_value ?_ rfl; go_simp <;> with_reducible rfl
        try simp only [List.getElem_toArray, List.getElem_cons_zero, List.getElem_cons_succ, Act.put, List.setIfInBounds_toArray, List.set_cons_zero, List.set_cons_succ]
        refine wpU_takeC (i := 7) (v := ?_) rfl (by kernel_rfl) (by kernel_rfl) (by kernel_rfl) (by kernel_rfl) (by kernel_rfl) (fun _ _ _ h => h) (by rfl) ?_ ?_
        rotate_left
        · intro wx hS; subst hS; refine lands_value ?_ rfl; go_simp <;> with_reducible rfl
        try simp only [List.getElem_toArray, List.getElem_cons_zero, List.getElem_cons_succ, Act.put, List.setIfInBounds_toArray, List.set_cons_zero, List.set_cons_succ]
        refine wpU_takeC (i := 8) (v := ?_) rfl (by kernel_rfl) (by kernel_rfl) (by kernel_rfl) (by kernel_rfl) (by kernel_rfl) (fun _ _ _ h => h) (by rfl) ?_ ?_
        rotate_left
        · intro wx hS; subst hS; refine lands_value ?_ rfl; go_simp <;> with_reducible rfl
        try simp only [List.getElem_toArray, List.getElem_cons_zero, List.getElem_cons_succ, Act.put, List.setIfInBounds_toArray, List.set_cons_zero, List.set_cons_succ]
        refine wpU_leaf' _ (by kernel_rfl) ?_
        intro wx hS
        refine wpAny_last (n := 9) (by kernel_rfl) (by kernel_rfl) rfl (by rfl) ?_
        subst hS
        go_simp
        refine HV.out.mono ?_
        rintro e w3 ⟨rfl, s, h1, h2, h3, h4⟩
        have S3 := hide (sAt_make (HSj.out.below (below_drewN (Below.refl _ _) 1)) (txn := m.dealt + 1) hi1 hkn24 HQ.out h1 h2 h3 h4)
        rw [HY.out s] at S3
        have hgmut : m.g ∈ M.mut := by
          rw [← HM1.out.2.2.2.2.2.1]
          refine SM.mem_mut.2 (Or.inl ?_)
          have : m.g ∈ M1.mks.map (·.g) := List.mem_map.2 ⟨_, List.mem_of_getElem? hi1, rfl⟩
          simp only [SM.base, List.mem_cons, List.mem_append]
          exact Or.inr (Or.inr (Or.inr (Or.inr (Or.inr this))))
        have C3 := hide ((HCj.out.trans (Chg.of_below (below_drewN (Below.refl w'.heap.size w') 1) _)).trans (h4.mono (E := fun k => k ∈ M.mut ∨ w.heap.size ≤ k) (fun k _ hk => by
          rcases hk with hk | hk
          · exact Or.inl (hk ▸ hgmut)
          · exact HBj.out kn hkn24 k hk)))
        have hszw : w.heap.size ≤ w'.heap.size := HCj.out.size
        have B3 : Hid (∀ k, k < 24 → ∀ x ∈ ((if k = kn then some s else vS k).getD Sl.nil).blk, x ∈ M.mut ∨ w.heap.size ≤ x) := hide (by
          intro k hk x hx
          by_cases e : k = kn
          · rw [if_pos e] at hx
            rcases h3 x hx with h | h
            · exact HBj.out kn hkn24 x h
            · exact Or.inr (Nat.le_trans hszw h)
          · rw [if_neg e] at hx
            exact HBj.out k hk x hx)
        clear h1 h2 h3 h4 HV
        skip
        go_wp2
        go_roundw
        case rel => exact ⟨j + 1, (fun k => if k = kn then some s else vS k), by omega, by go_num, S3.out, C3.out, B3.out⟩
        case measure => simp [intOf]; omega
      · have hne : ¬ ((kn % M1.mks.length : Nat) : Int) = (i : Int) := by omega
        have HN := hide (mades_no M1 i (m.dealt + 1) t.w j vS hjk hq)
        generalize kn % M1.mks.length = qq at *
        have hd2 : ((qq : Int) == (i : Int)) = false := by simp; omega
        go_wp2_with (go_at_call 51; refine MO.out.mono ?_; rintro e w' ⟨rfl, rfl⟩)
        go_roundw
        case rel => exact ⟨j + 1, vS, by omega, by go_num, by rw [HN.out]; exact HSj.out, HCj.out, HBj.out⟩
        case measure => simp [intOf]; omega
    · obtain rfl : j = t.w.length := by omega
      have HSj := hide hSj
      have HCj := hide hCj
      have HBj := hide hBj
      clear hSj hCj hBj
      go_wp2
      go_ret
      refine ⟨rfl, vS, by rw [HE.out]; exact HSj.out, HCj.out.mono (fun k hk h => by rcases h with h | h; exact h; omega), ?_⟩
      intro k hk
      rw [HE.out] at hk
      rcases SM.mem_foot.1 hk with h1 | h1
      · rcases SM.mem_mut.1 h1 with h1 | ⟨q, hq, h1⟩
        · refine Or.inl (SM.mem_foot.2 (Or.inl ?_))
          rw [← HM1.out.2.2.2.2.2.1]
          exact SM.mem_mut.2 (Or.inl h1)
        · rcases HBj.out q hq k h1 with h | h
          · exact Or.inl (SM.mem_foot.2 (Or.inl h))
          · exact Or.inr h
      · refine Or.inl (SM.mem_foot.2 (Or.inr ?_))
        rw [← HM1.out.2.1]
        exact h1

end Go.Proofs.Ytlheloogmgmjnaa

namespace Go.Proofs.Ytlheloogmgmjnaa
open Go.RowKit

/-- X: doers whose machines are not spoken of. -/
structure Rel (M : SM) (R : RM) (X : Nat → Prop := fun _ => False) : Prop where
  room : M.room = R.room
  room5 : R.room ≤ 500
  taken : M.taken = R.used
  fits : R.used ≤ R.room
  txs : M.txs = R.tasks.map (·.tx)
  recs : ∀ (i : Nat) (r : PRec), M.recs[i]? = some r → ∃ t, R.tasks[i]? = some t ∧ r.ended = t.ended ∧ (r.ended = true → r.ab = t.crs.ab ∧ r.out = t.crs.out)
  txns : M.recs.length = R.tasks.length
  ends : M.ends = R.ends
  pos : ∀ e ∈ R.ends, 1 ≤ e
  rise : R.ends.Pairwise (· < ·)
  dealt : M.mks.map (·.dealt) = R.dealt
  dealtle : ∀ d ∈ R.dealt, d ≤ R.closed
  closedle : R.closed ≤ R.tasks.length
  parts : R.dealt.length = R.parts
  parts1 : 1 ≤ R.parts
  took : M.took = R.taken
  takenle : R.taken ≤ M.last
  gone : ∀ t ∈ R.tasks, t.gone = List.replicate t.tx.w.length false
  chk : ∀ t ∈ R.tasks, checkN t.tx = 0
  serial : SerialCrs R.tasks
  hv : R.hv = behindTo (R.tasks.map (·.tx)) R.tasks.length
  vs : ∀ k, M.vs k = versL R.tasks k (R.dealt.getD (k % R.parts) 0)
  dos : M.dos.length = R.doers
  hal : R.hand.length = R.doers
  dil : R.dids.length = R.doers
  hand : ∀ (i : Nat) (d : SDo), M.dos[i]? = some d → d.txn = R.hand.getD i 0
  doer : ∀ (i : Nat) (d : SDo), ¬ X i → M.dos[i]? = some d → ∀ m, d.txn = m + 1 → ∃ t r, R.tasks[m]? = some t ∧ M.recs[m]? = some r ∧ t.ended = false ∧ d.mac.h = r.h ∧ R.dids.getD i 0 < t.crs.did.length ∧ MacRel d.mac (gst t.tx (behindTo (R.tasks.map (·.tx)) m) (R.dids.getD i 0))
  handle : ∀ i, i < R.doers → R.hand.getD i 0 ≤ R.taken
  hands : ∀ i j, i < R.doers → j < R.doers → R.hand.getD i 0 = R.hand.getD j 0 → R.hand.getD i 0 ≠ 0 → i = j
  fresh : ∀ (m : Nat) (t : Tsk), R.tasks[m]? = some t → R.taken ≤ m → t.ended = false

theorem wholeB_mem {l : List Nat} (h : l.Pairwise (· < ·)) (n : Nat) : ∀ x, 1 ≤ x → (x ≤ lastOfN l (wholeB l n) ↔ ∃ e ∈ l, x ≤ e ∧ e ≤ n) := by
  intro x hx
  rw [← mark_whole h n]
  unfold markOf
  have G : ∀ (l : List Nat) (a : Nat), l.Pairwise (· < ·) → (∀ e ∈ l, a ≤ e) → (x ≤ l.foldl (fun m e => if e ≤ n then e else m) a ↔ x ≤ a ∨ ∃ e ∈ l, x ≤ e ∧ e ≤ n) := by
    intro l
    induction l with
    | nil => intro a _ _; simp
    | cons y l ih =>
      intro a hp ha
      rw [List.foldl_cons]
      have hp' := List.pairwise_cons.1 hp
      by_cases hy : y ≤ n
      · rw [if_pos hy, ih y hp'.2 (fun e he => Nat.le_of_lt (hp'.1 e he))]
        have hay := ha y (by simp)
        constructor
        · rintro (h | ⟨e, he, h⟩)
          · exact Or.inr ⟨y, by simp, h, hy⟩
          · exact Or.inr ⟨e, by simp [he], h⟩
        · rintro (h | ⟨e, he, h⟩)
          · exact Or.inl (by omega)
          · rcases List.mem_cons.1 he with rfl | he
            · exact Or.inl h.1
            · exact Or.inr ⟨e, he, h⟩
      · rw [if_neg hy, ih a hp'.2 (fun e he => ha e (by simp [he]))]
        constructor
        · rintro (h | ⟨e, he, h⟩)
          · exact Or.inl h
          · exact Or.inr ⟨e, by simp [he], h⟩
        · rintro (h | ⟨e, he, h⟩)
          · exact Or.inl h
          · rcases List.mem_cons.1 he with rfl | he
            · omega
            · exact Or.inr ⟨e, he, h⟩
  rw [G l 0 h (fun _ _ => Nat.zero_le _)]
  constructor
  · rintro (h | h)
    · omega
    · exact h
  · exact Or.inr
theorem last_le {l : List Nat} (h : l.Pairwise (· < ·)) (n : Nat) : lastOfN l (wholeB l n) ≤ n := by
  by_cases h0 : lastOfN l (wholeB l n) = 0
  · omega
  · obtain ⟨e, _, h1, h2⟩ := (wholeB_mem h n _ (by omega)).1 (Nat.le_refl _)
    omega
theorem last_mono {l l' : List Nat} (h : l.Pairwise (· < ·)) (h' : l'.Pairwise (· < ·)) {n n' : Nat} (hs : ∀ e ∈ l, e ∈ l') (hn : n ≤ n') : lastOfN l (wholeB l n) ≤ lastOfN l' (wholeB l' n') := by
  by_cases h0 : lastOfN l (wholeB l n) = 0
  · omega
  · obtain ⟨e, he, h1, h2⟩ := (wholeB_mem h n _ (by omega)).1 (Nat.le_refl _)
    exact (wholeB_mem h' n' _ (by omega)).2 ⟨e, hs e he, h1, by omega⟩

theorem Rel.closed {M : SM} {R : RM} {X : Nat → Prop} (h : Rel M R X) : M.closed = R.closed := by
  unfold SM.closed RM.closed lastOfN
  rw [h.ends]
  split
  · rename_i h0
    have : R.ends = [] := by simpa using h0
    simp [this]
  · rfl
theorem Rel.mks {M : SM} {R : RM} {X : Nat → Prop} (h : Rel M R X) : M.mks.length = R.parts := by rw [← h.parts, ← h.dealt]; simp
theorem Rel.least_le {M : SM} {R : RM} {X : Nat → Prop} (h : Rel M R X) : ∀ d ∈ R.dealt, M.least ≤ d := by
  intro d hd
  unfold SM.least
  rw [h.dealt]
  exact ((le_minOf _ _ _).1 (Nat.le_refl _)).2 d hd
theorem Rel.le_least {M : SM} {R : RM} {X : Nat → Prop} (h : Rel M R X) (e : Nat) : (e ≤ M.least ↔ ∀ d ∈ R.dealt, e ≤ d) := by
  unfold SM.least
  rw [h.dealt, le_minOf]
  have hl : 0 < R.dealt.length := by have := h.parts; have := h.parts1; omega
  constructor
  · exact fun x => x.2
  · intro x
    exact ⟨by rw [nat_get hl]; exact x _ (List.getElem_mem hl), x⟩
theorem Rel.ready {M : SM} {R : RM} {X : Nat → Prop} (h : Rel M R X) : M.ready = R.ready := by
  unfold SM.ready RM.ready
  rw [h.ends, ← whole_count h.rise]
  congr 1
  funext e
  have := h.le_least e
  rw [Bool.eq_iff_iff]
  simp [this]
theorem Rel.last {M : SM} {R : RM} {X : Nat → Prop} (h : Rel M R X) : M.last = if R.ready = 0 then 0 else R.ends.getD (R.ready - 1) 0 := by
  unfold SM.last lastOfN
  rw [h.ready, h.ends]
theorem Rel.last_least {M : SM} {R : RM} {X : Nat → Prop} (h : Rel M R X) : M.last ≤ M.least := by
  unfold SM.last SM.ready
  rw [h.ends]
  exact last_le h.rise _
/-- All makers have dealt with what was taken. -/
theorem Rel.taken_dealt {M : SM} {R : RM} {X : Nat → Prop} (h : Rel M R X) : ∀ d ∈ R.dealt, R.taken ≤ d := fun d hd => by
  have h1 := h.takenle
  have h2 := h.last_least
  have h3 := h.least_le d hd
  omega
theorem Rel.dealt_get {M : SM} {R : RM} {X : Nat → Prop} (h : Rel M R X) (k : Nat) : R.dealt.getD (k % R.parts) 0 ∈ R.dealt := by
  have h1 : k % R.parts < R.dealt.length := by rw [h.parts]; exact Nat.mod_lt _ h.parts1
  rw [nat_get h1]
  exact List.getElem_mem h1
theorem Rel.endeds {M : SM} {R : RM} {X : Nat → Prop} (h : Rel M R X) : M.recs.map (·.ended) = R.tasks.map (·.ended) := by
  apply List.ext_getElem
  · simp [h.txns]
  · intro i h1 h2
    simp only [List.length_map] at h1 h2
    obtain ⟨t, ht, he, _⟩ := h.recs i _ (List.getElem?_eq_getElem h1)
    rw [List.getElem?_eq_getElem h2] at ht
    obtain rfl := Option.some.inj ht
    simp [he]
theorem takeWhile_map_len {α : Type} (p : α → Bool) : ∀ l : List α, (l.takeWhile p).length = ((l.map p).takeWhile id).length
  | [] => rfl
  | x :: l => by
    rw [List.takeWhile_cons, List.map_cons, List.takeWhile_cons]
    cases hp : p x
    · simp
    · simp [takeWhile_map_len p l]
theorem Rel.done {M : SM} {R : RM} {X : Nat → Prop} (h : Rel M R X) : M.done = R.done := by
  unfold SM.done doneN RM.done
  rw [takeWhile_map_len, takeWhile_map_len (fun t : Tsk => t.ended), h.endeds]
theorem Rel.mark {M : SM} {R : RM} {X : Nat → Prop} (h : Rel M R X) : M.mark = R.mark := by
  unfold SM.mark RM.mark
  rw [mark_whole h.rise, h.ends, ← h.done]
  rfl

theorem versL_live (l : List Tsk) (key : Nat) : ∀ n, (versL l key n).length = (List.range n).countP fun i => decide (0 ≤ ((l[i]?).map fun t => t.wr key).getD (-1))
  | 0 => rfl
  | n + 1 => by
    rw [versL, List.length_append, versL_live l key n, countP_range_succ]
    congr 1
    cases hl : l[n]? with
    | none => simp [tailV]
    | some t =>
      simp only [tailV, Option.map_some, Option.getD_some, decide_eq_true_eq]
      split <;> rfl
theorem sumTo_list (f : Nat → Nat) : ∀ n, sumTo f n = ((List.range n).map f).sum
  | 0 => rfl
  | n + 1 => by rw [sumTo, sumTo_list f n, sum_range_succ]
theorem sumTo_zero : ∀ n, sumTo (fun _ => 0) n = 0
  | 0 => rfl
  | n + 1 => by rw [sumTo, sumTo_zero n]
theorem sumTo_add (f g : Nat → Nat) : ∀ n, sumTo (fun k => f k + g k) n = sumTo f n + sumTo g n
  | 0 => rfl
  | n + 1 => by rw [sumTo, sumTo, sumTo, sumTo_add f g n]; omega
/-- Counted by makers, counted by keys. -/
theorem sumTo_parts (f : Nat → Nat) (P : Nat) (K : Nat) : ∀ n, n ≤ P → sumTo (fun i => sumTo (fun k => if k % P = i then f k else 0) K) n = sumTo (fun k => if k % P < n then f k else 0) K
  | 0, _ => by
    show 0 = _
    rw [sumTo_congr (h' := fun _ => 0) K (fun k _ => by simp), sumTo_zero]
  | n + 1, hn => by
    rw [sumTo, sumTo_parts f P K n (by omega), ← sumTo_add]
    refine sumTo_congr K (fun k _ => ?_)
    by_cases h1 : k % P < n
    · rw [if_pos h1, if_neg (by omega), if_pos (by omega)]; omega
    · by_cases h2 : k % P = n
      · rw [if_neg h1, if_pos h2, if_pos (by omega)]; omega
      · rw [if_neg h1, if_neg h2, if_neg (by omega)]
theorem live_le (f : Nat → Nat) (P K : Nat) : ∀ n, sumTo (fun i => sumTo (fun k => if k % P = i then f k else 0) K) n ≤ sumTo f K := by
  intro n
  have : ∀ n, sumTo (fun i => sumTo (fun k => if k % P = i then f k else 0) K) n = sumTo (fun k => if k % P < n then f k else 0) K := by
    intro n
    induction n with
    | zero =>
      show 0 = _
      rw [sumTo_congr (h' := fun _ => 0) K (fun k _ => by simp), sumTo_zero]
    | succ n ih =>
      rw [sumTo, ih, ← sumTo_add]
      refine sumTo_congr K (fun k _ => ?_)
      by_cases h1 : k % P < n
      · rw [if_pos h1, if_neg (by omega), if_pos (by omega)]; omega
      · by_cases h2 : k % P = n
        · rw [if_neg h1, if_pos h2, if_pos (by omega)]; omega
        · rw [if_neg h1, if_neg h2, if_neg (by omega)]
  rw [this n]
  induction K with
  | zero => exact Nat.le_refl _
  | succ K ih =>
    rw [sumTo, sumTo]
    have h1 : (if K % P < n then f K else 0) ≤ f K := by split <;> omega
    have h2 := ih
    have h3 : sumTo (fun k => if k % P < n then f k else 0) K ≤ sumTo f K := by
      clear this ih h2 h1
      induction K with
      | zero => exact Nat.le_refl _
      | succ K ih =>
        rw [sumTo, sumTo]
        have h1 : (if K % P < n then f K else 0) ≤ f K := by split <;> omega
        omega
    omega
theorem SM.live_of (M : SM) (i : Nat) : Go.Proofs.Ytlheloogmgmjnaa.liveOf (M.mapOf i) = sumTo (fun k => if k % M.mks.length = i then (M.vsl k).n else 0) 24 := by
  unfold Go.Proofs.Ytlheloogmgmjnaa.liveOf
  refine sumTo_congr 24 (fun k _ => ?_)
  unfold SM.mapOf SM.vsl
  split <;> rfl
theorem Rel.vs_le {M : SM} {R : RM} {X : Nat → Prop} (h : Rel M R X) (hl : R.tasks.length ≤ 150) (k : Nat) : (M.vs k).length ≤ 150 := by
  rw [h.vs k]
  have h1 := versL_length R.tasks (k : Int) (R.dealt.getD (k % R.parts) 0)
  have h2 := h.dealtle _ (h.dealt_get k)
  have h3 := h.closedle
  omega
theorem Rel.live_bound {w : World} {M : SM} {R : RM} {X : Nat → Prop} (h : Rel M R X) (hs : SAt w M) (hl : R.tasks.length ≤ 150) (n : Nat) : sumTo (fun i => Go.Proofs.Ytlheloogmgmjnaa.liveOf (M.mapOf i)) n ≤ 100000 := by
  rw [sumTo_congr n (fun i _ => M.live_of i)]
  refine Nat.le_trans (live_le (fun k => (M.vsl k).n) M.mks.length 24 n) ?_
  have : ∀ K, K ≤ 24 → sumTo (fun k => (M.vsl k).n) K ≤ K * 150 := by
    intro K
    induction K with
    | zero => intro _; exact Nat.le_refl _
    | succ K ih =>
      intro hK
      rw [sumTo]
      have h1 := ih (by omega)
      have h2 := (hs.vers K (by omega)).n
      have h3 := h.vs_le hl K
      omega
  have := this 24 (by omega)
  omega
theorem Rel.live {w : World} {M : SM} {R : RM} {X : Nat → Prop} (h : Rel M R X) (hs : SAt w M) : M.live = R.live := by
  unfold SM.live RM.live
  rw [sumTo_congr _ (fun i _ => M.live_of i), sumTo_parts _ _ _ _ (Nat.le_refl _), ← sumTo_list]
  refine sumTo_congr 24 (fun k hk => ?_)
  have h1 : k % M.mks.length < M.mks.length := Nat.mod_lt _ hs.mk1
  rw [if_pos h1, (hs.vers k hk).n, h.vs k, versL_live]
  rfl
end Go.Proofs.Ytlheloogmgmjnaa

namespace Go.Proofs.Ytlheloogmgmjnaa
open Go.RowKit

theorem Rel.refusal {M : SM} {R : RM} {X : Nat → Prop} (h : Rel M R X) (t : Tx) : M.refusal t = (if checkN t ≠ 0 then checkN t else if 150 ≤ R.tasks.length then 6 else if R.room < R.used + t.w.length then 7 else 0) := by
  unfold SM.refusal
  rw [h.txns, h.room, h.taken]
theorem Rel.ends_closed {M : SM} {R : RM} {X : Nat → Prop} (h : Rel M R X) : R.ends.length ≤ R.closed := by
  have key : ∀ (l : List Nat), l.Pairwise (· < ·) → (∀ e ∈ l, 1 ≤ e) → ∀ i (hi : i < l.length), i + 1 ≤ l[i] := by
    intro l hp h1 i
    induction i with
    | zero => intro hi; exact h1 _ (List.getElem_mem hi)
    | succ i ih =>
      intro hi
      have h2 := ih (by omega)
      have h3 := List.pairwise_iff_getElem.1 hp i (i + 1) (by omega) hi (by omega)
      omega
  unfold RM.closed
  by_cases h0 : R.ends.length = 0
  · omega
  · have := key R.ends h.rise h.pos (R.ends.length - 1) (by omega)
    rw [nat_get (by omega)]
    omega

end Go.Proofs.Ytlheloogmgmjnaa

namespace Go.Proofs.Ytlheloogmgmjnaa
open Go.RowKit

theorem getD_set {l : List Nat} {i d j : Nat} (hi : i < l.length) : (l.set i d).getD j 0 = if j = i then d else l.getD j 0 := by
  by_cases e : j = i
  · subst e; rw [if_pos rfl]; simp [List.getD, hi]
  · rw [if_neg e]; simp [List.getD, List.getElem?_set_ne (fun q => e q.symm)]

end Go.Proofs.Ytlheloogmgmjnaa

namespace Go.Proofs.Ytlheloogmgmjnaa
open Go.RowKit

/-- What the keys' versions are when the first j of those that a transaction writes have been settled. -/
def settleTo (vs : Nat → List Ver) (txn : Nat) (ws : List Int) (sd : Nat → Say) : Nat → Nat → List Ver
  | 0 => vs
  | j + 1 => fun k => if (k : Int) = ws.getD j 0 then (if (sd j).said then settleV (settleTo vs txn ws sd j k) txn 2 (sd j).v (sd j).th else settleV (settleTo vs txn ws sd j k) txn 1 0 false) else settleTo vs txn ws sd j k

theorem settleTo_succ (vs : Nat → List Ver) (txn : Nat) (ws : List Int) (sd : Nat → Say) (j k : Nat) : settleTo vs txn ws sd (j + 1) k = if (k : Int) = ws.getD j 0 then (if (sd j).said then settleV (settleTo vs txn ws sd j k) txn 2 (sd j).v (sd j).th else settleV (settleTo vs txn ws sd j k) txn 1 0 false) else settleTo vs txn ws sd j k := rfl
def Mac.zero : Mac := Mac.begin ⟨Sl.nil, Sl.nil, Sl.nil⟩
/-- A doer's transaction has ended, in the program's store. -/
def SM.freed (M : SM) (n m : Nat) (ws : List Int) (sd : Nat → Say) (ab : Bool) (out : Int) : SM :=
  { M with vs := settleTo M.vs (m + 1) ws sd ws.length, recs := M.recs.set m (PRec.endAs ab out), dos := M.dos.set n ⟨0, Mac.zero⟩ }

end Go.Proofs.Ytlheloogmgmjnaa
