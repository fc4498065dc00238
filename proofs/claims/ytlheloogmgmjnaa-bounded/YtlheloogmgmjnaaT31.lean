import Derived.Test.YtlheloogmgmjnaaT25
import Derived.Test.YtlheloogmgmjnaaT30
namespace Go.Proofs.Ytlheloogmgmjnaa
open Go.RowKit

/-- A key's versions are others. -/
def SM.remake (M : SM) (key : Nat) (l' : List Ver) (s : Sl) : SM :=
  { M with vs := fun k => if k = key then l' else M.vs k, vS := fun k => if k = key then some s else M.vS k }

theorem SM.remake_vsl (M : SM) (key : Nat) (l' : List Ver) (s : Sl) (k : Nat) : (M.remake key l' s).vsl k = if k = key then s else M.vsl k := by
  unfold SM.vsl SM.remake
  by_cases h : k = key <;> simp [h]

theorem sAt_remake {w w' : World} {M : SM} (h : SAt w M) {i key : Nat} {l' : List Ver} {m : SMk} {s : Sl} (hi : M.mks[i]? = some m) (hk : key < 24) (hki : key % M.mks.length = i)
    (h1 : IMapAt w' m.g (fun j => if j = key then some s else M.mapOf i j)) (h2 : VerAt w' s l') (h3 : ∀ k ∈ s.blk, k ∈ (M.vsl key).blk ∨ w.heap.size ≤ k)
    (hc : Chg w w' (fun k => k = m.g ∨ k ∈ (M.vsl key).blk)) : SAt w' (M.remake key l' s) := by
  have hgm : m.g ∈ M.base := by
    have : m.g ∈ M.mks.map (·.g) := List.mem_map.2 ⟨m, List.mem_of_getElem? hi, rfl⟩
    simp only [SM.base, List.mem_cons, List.mem_append]
    exact Or.inr (Or.inr (Or.inr (Or.inr (Or.inr this))))
  have hnd := h.nodup
  have hng : ∀ k ∈ M.b :: (M.rcS.blk ++ (M.enS.blk ++ (M.mkS.blk ++ M.doS.blk))), ¬ (k = m.g ∨ k ∈ (M.vsl key).blk) := by
    intro k hk1 hk2
    have hkb : k ∈ M.base := by
      simp only [SM.base, List.mem_cons, List.mem_append] at hk1 ⊢
      rcases hk1 with h | h | h | h | h
      · exact Or.inl h
      · exact Or.inr (Or.inl h)
      · exact Or.inr (Or.inr (Or.inl h))
      · exact Or.inr (Or.inr (Or.inr (Or.inl h)))
      · exact Or.inr (Or.inr (Or.inr (Or.inr (Or.inl h))))
    rcases hk2 with rfl | hk2
    · have hb : M.base = (M.b :: (M.rcS.blk ++ (M.enS.blk ++ (M.mkS.blk ++ M.doS.blk)))) ++ M.mks.map (·.g) := by simp [SM.base]
      rw [hb] at hnd
      exact (List.nodup_append.1 hnd).2.2 _ hk1 _ (List.mem_map.2 ⟨m, List.mem_of_getElem? hi, rfl⟩) rfl
    · exact h.vbase key hk k hk2 hkb
  have hother : ∀ j n, M.mks[j]? = some n → j ≠ i → n.g ≠ m.g := by
    intro j n hj hne e
    have hb : M.base = (M.b :: (M.rcS.blk ++ (M.enS.blk ++ (M.mkS.blk ++ M.doS.blk)))) ++ M.mks.map (·.g) := by simp [SM.base]
    rw [hb] at hnd
    have hn2 := (List.nodup_append.1 hnd).2.1
    have a1 : (M.mks.map (·.g))[j]? = some m.g := by rw [List.getElem?_map, hj]; simp [e]
    have a2 : (M.mks.map (·.g))[i]? = some m.g := by rw [List.getElem?_map, hi]; rfl
    have hjl : j < (M.mks.map (·.g)).length := by
      by_cases hb : j < (M.mks.map (·.g)).length
      · exact hb
      · rw [List.getElem?_eq_none (by omega)] at a1; cases a1
    exact hne ((List.getElem?_inj hjl hn2).1 (a1.trans a2.symm))
  refine
    { h with
      row := h.row.chg hc (hng _ (by simp))
      rc := h.rc.chg hc (fun k hk => hng k (by simp [hk]))
      en := h.en.chg hc (fun k hk => hng k (by simp [hk]))
      mO := h.mO.chg hc (fun k hk => hng k (by simp [hk]))
      dO := h.dO.chg hc (fun k hk => hng k (by simp [hk]))
      maps := ?_
      vers := ?_
      keys := ?_
      vbase := ?_
      vapart := ?_
      txn := ?_ }
  · intro j n hj
    by_cases e : j = i
    · subst e
      have hj' : M.mks[j]? = some n := hj
      rw [hi] at hj'
      obtain rfl := Option.some.inj hj'
      have : (M.remake key l' s).mapOf j = fun q => if q = key then some s else M.mapOf j q := by
        funext q
        unfold SM.mapOf SM.remake
        by_cases hq : q = key
        · subst hq; simp [hki]
        · simp [hq]
      rw [this]; exact h1
    · have : (M.remake key l' s).mapOf j = M.mapOf j := by
        funext q
        unfold SM.mapOf SM.remake
        by_cases hq : q = key
        · subst hq; simp only [hki]; rw [if_neg (fun x => e x.symm), if_neg (fun x => e x.symm)]
        · simp [hq]
      rw [this]
      refine (h.maps j n hj).chg hc ?_
      rintro (hx | hx)
      · exact hother j n hj e hx
      · refine h.vbase key hk _ hx ?_
        have : n.g ∈ M.mks.map (·.g) := List.mem_map.2 ⟨n, List.mem_of_getElem? hj, rfl⟩
        simp only [SM.base, List.mem_cons, List.mem_append]
        exact Or.inr (Or.inr (Or.inr (Or.inr (Or.inr this))))
  · intro k hkk
    rw [SM.remake_vsl]
    by_cases e : k = key
    · subst e; simp only [if_true, SM.remake]; exact h2
    · simp only [e, if_false, SM.remake]
      refine (h.vers k hkk).chg hc ?_
      rintro x hx (hg | hg)
      · exact h.vbase k hkk x hx (hg ▸ hgm)
      · exact h.vapart k key hkk hk e x hx hg
  · intro k q hq
    simp only [SM.remake] at hq
    by_cases e : k = key
    · omega
    · rw [if_neg e] at hq; exact h.keys k q hq
  · intro k hkk x hx
    rw [SM.remake_vsl] at hx
    show x ∉ M.base
    by_cases e : k = key
    · rw [if_pos e] at hx
      rcases h3 x hx with h4 | h4
      · exact h.vbase key hk x h4
      · intro hb; have := h.base_lt x hb; omega
    · rw [if_neg e] at hx; exact h.vbase k hkk x hx
  · intro k k' hkk hkk' hne x hx hx'
    rw [SM.remake_vsl] at hx hx'
    by_cases e : k = key
    · rw [if_pos e] at hx
      rw [if_neg (fun q => hne (e.trans q.symm))] at hx'
      rcases h3 x hx with h4 | h4
      · exact h.vapart key k' hk hkk' (fun q => hne (e.trans q)) x h4 hx'
      · have := h.ver_lt hkk' x hx'; omega
    · rw [if_neg e] at hx
      by_cases e' : k' = key
      · rw [if_pos e'] at hx'
        rcases h3 x hx' with h4 | h4
        · exact h.vapart k key hkk hk e x hx h4
        · have := h.ver_lt hkk x hx; omega
      · rw [if_neg e'] at hx'
        exact h.vapart k k' hkk hkk' hne x hx hx'
  · intro j r t hr ht he
    obtain ⟨a1, a2, a3⟩ := h.txn j r t hr ht he
    refine ⟨a1.chg hc ?_, a2, ?_⟩
    · rintro x hx (hg | hg)
      · exact a3 x hx (SM.mem_mut.2 (Or.inl (hg ▸ hgm)))
      · exact a3 x hx (SM.mem_mut.2 (Or.inr ⟨key, hk, hg⟩))
    · intro x hx hm
      rcases SM.mem_mut.1 hm with hb | ⟨k, hkk, hb⟩
      · exact a3 x hx (SM.mem_mut.2 (Or.inl hb))
      · rw [SM.remake_vsl] at hb
        by_cases e : k = key
        · rw [if_pos e] at hb
          rcases h3 x hb with h4 | h4
          · exact a3 x hx (SM.mem_mut.2 (Or.inr ⟨key, hk, h4⟩))
          · have := a1.blk_lt x hx; omega
        · rw [if_neg e] at hb
          exact a3 x hx (SM.mem_mut.2 (Or.inr ⟨k, hkk, hb⟩))

/-- Versions of a key have gone. -/
def SM.collected (M : SM) (key u : Nat) (l' : List Ver) (s : Sl) : SM := { M.remake key l' s with taken := M.taken - u }

set_option maxHeartbeats 4000000 in
set_option maxRecDepth 100000 in
theorem collector_any (M : SM) (w : World) (h : SAt w M) (hvl : ∀ k, (M.vs k).length ≤ 500) (hso : ∀ k, VSorted (M.vs k)) (htk : ∀ k, k < 24 → (M.vs k).length ≤ M.taken) (ht5 : M.taken ≤ 500) :
    Calls Try.prog 29 #[.pointer (some ⟨M.b, 0, none⟩)] w fun e w' =>
      (e = .returned (.int .i64 0) ∧ Below w.heap.size w w' ∧ ∀ k, k < 24 → upToV (M.vs k) M.mark < 2) ∨
      ∃ (key u : Nat) (s : Sl) (txn : Nat) (v : Int) (th : Bool), key < 24 ∧ 1 ≤ u ∧ upToV (M.vs key) M.mark = u + 1 ∧ e = .returned (.int .i64 u) ∧ SAt w' (M.collected key u ((settleV (M.vs key) txn 2 v th).drop u) s) ∧ Chg w w' (fun k => k ∈ M.mut) ∧ (∀ k ∈ s.blk, k ∈ (M.vsl key).blk) := by
  have MK := hide (iMark_gen w h.inAt)
  change Hid (Calls Try.prog 34 #[.pointer (some ⟨M.b, 2, none⟩)] w fun e w' => e = .returned (.int .i64 M.mark) ∧ w' = w) at MK
  have H := hide h
  have mk8 := h.mk8
  generalize hmark : M.mark = mk at *
  clear hmark h
  go_enter Try.func29, Try.ntmps29
  go_wp2_with (go_at_call 34; refine MK.out.mono ?_; rintro e w' ⟨rfl, hw⟩; rw [hw]; clear hw)
  go_loopw [4, 5, 10] (fun _ _ ix wr => ∃ j : Nat, j ≤ 24 ∧ ix = .int .i64 j ∧ Below w.heap.size w wr ∧ Hid (∀ k, k < j → upToV (M.vs k) mk < 2)) (fun _ _ ix _ => 24 - (intOf ix).toNat)
  case atStart => exact ⟨0, Nat.zero_le _, rfl, Below.refl _ _, hide (fun k hk => by omega)⟩
  case round =>
    obtain ⟨j, hj, rfl, hb, HN⟩ := hrel
    have HB := hide hb
    clear hb
    by_cases hjl : j < 24
    · have hql : j % M.mks.length < M.mks.length := Nat.mod_lt _ H.out.mk1
      have hmk : M.mks[j % M.mks.length]? = some M.mks[j % M.mks.length] := List.getElem?_eq_getElem hql
      have emap : (M.mapOf (j % M.mks.length) j).getD Sl.nil = M.vsl j := by
        show (if j % M.mks.length = j % M.mks.length then M.vS j else none).getD Sl.nil = (M.vS j).getD Sl.nil
        rw [if_pos rfl]
      have VO := hide (versionsOf_gen wr (H.out.below HB.out).mkAt j hjl _ hmk)
      have hjl' : (j : Int) < 24 := by omega
      have hwj : IntKind.i64.wrap ((j : Int) + 1) = ((j + 1 : Nat) : Int) := by rw [IntKind.wrap_i64]; omega
      by_cases hu : upToV (M.vs j) mk < 2
      · have CN := hide (fun n => vCollect_no M.mks[j % M.mks.length].g (M.mapOf (j % M.mks.length)) j mk (M.vs j) (wr.drewN n) (((H.out.below HB.out).below (below_drewN (Below.refl _ _) n)).maps _ _ hmk) (by rw [emap]; exact ((H.out.below HB.out).below (below_drewN (Below.refl _ _) n)).vers j hjl) (by have := hvl j; omega) hu)
        generalize M.mks[j % M.mks.length] = m at *
        go_wp2_with (first | (go_at_call 56; refine VO.out.mono ?_; rintro e w2 ⟨rfl, q, rfl⟩) | (go_at_call 57; refine (CN.out q).mono ?_; rintro e w3 ⟨rfl, rfl⟩))
        go_roundw
        case rel => exact ⟨j + 1, by omega, by go_num, below_drewN HB.out q, hide (fun k hk => by
          by_cases e : k = j
          · rw [e]; exact hu
          · exact HN.out k (by omega))⟩
        case measure => simp [intOf]; omega
      · obtain ⟨u, hu'⟩ : ∃ u, upToV (M.vs j) mk = u + 1 := ⟨upToV (M.vs j) mk - 1, by omega⟩
        have hu1 : 1 ≤ u := by omega
        have hul := upToV_le (mk : Int) (M.vs j)
        have htj := htk j hjl
        have CY := hide (fun n => vCollect_yes M.mks[j % M.mks.length].g (M.mapOf (j % M.mks.length)) j mk (M.vs j) (wr.drewN n) (((H.out.below HB.out).below (below_drewN (Below.refl _ _) n)).maps _ _ hmk) (by rw [emap]; exact ((H.out.below HB.out).below (below_drewN (Below.refl _ _) n)).vers j hjl) (by have := hvl j; omega) (hso j) (by
          rw [emap]
          intro k hk e
          refine H.out.vbase j hjl k hk ?_
          rw [e]
          have : M.mks[j % M.mks.length].g ∈ M.mks.map (·.g) := List.mem_map.2 ⟨_, List.getElem_mem hql, rfl⟩
          simp only [SM.base, List.mem_cons, List.mem_append]
          exact Or.inr (Or.inr (Or.inr (Or.inr (Or.inr this))))) u hu1 hu')
        rw [emap] at CY
        have hgm : M.mks[j % M.mks.length].g ∈ M.mut := by
          refine SM.mem_mut.2 (Or.inl ?_)
          have : M.mks[j % M.mks.length].g ∈ M.mks.map (·.g) := List.mem_map.2 ⟨_, List.getElem_mem hql, rfl⟩
          simp only [SM.base, List.mem_cons, List.mem_append]
          exact Or.inr (Or.inr (Or.inr (Or.inr (Or.inr this))))
        have hbm : M.b ∈ M.mut := SM.mem_mut.2 (Or.inl (by simp [SM.base]))
        generalize hgn : M.mks[j % M.mks.length] = m at *
        have HU := hide hu'
        have hup : (0 : Int) < (u : Int) := by omega
        have hws : IntKind.i64.wrap ((M.taken : Int) - (u : Int)) = ((M.taken - u : Nat) : Int) := by rw [IntKind.wrap_i64]; omega
        clear hu hu' hul hgn
        go_wp2_with (go_at_call 56; refine VO.out.mono ?_; rintro e w2 ⟨rfl, q, rfl⟩)
        refine (CY.out q).mono ?_
        rintro e w3 ⟨rfl, s, txn, v, th, h1, h2, h3, h4⟩
        have S3 := hide (sAt_remake ((H.out.below HB.out).below (below_drewN (Below.refl _ _) q)) hmk hjl rfl h1 h2 (fun k hk => Or.inl (h3 k hk)) h4)
        have C3 := hide ((Chg.of_below (below_drewN HB.out q) (fun k => k ∈ M.mut)).trans (h4.mono (fun k _ hk => by
          rcases hk with hk | hk
          · rw [hk]; exact hgm
          · exact SM.mem_mut.2 (Or.inr ⟨j, hjl, hk⟩))))
        have B3 := hide h3
        have t1 := S3.out.row.cell' (i := 1) (v := .int .i64 M.taken) rfl
        have f1 := S3.out.row.frozen 1
        change w3.cell? ⟨M.b, 1, none⟩ = some (.int .i64 M.taken) at t1
        change w3.frozen? ⟨M.b, 1, none⟩ = false at f1
        clear h1 h2 h3 h4 CY VO
        go_wp2
        go_ret
        have hc : Chg w3 (w3.setCell ⟨M.b, 1, none⟩ (.int .i64 (M.taken - u : Nat))) (· = M.b) := Chg.setCell w3 ⟨M.b, 1, none⟩ _
        refine Or.inr ⟨j, u, s, txn, v, th, hjl, hu1, HU.out, rfl, ?_, C3.out.trans (hc.mono (fun k _ (e : k = M.b) => by rw [e]; exact hbm)), B3.out⟩
        exact sAt_taken S3.out (S3.out.row.set 1 _) hc
    · obtain rfl : j = 24 := by omega
      go_wp2
      go_ret
      exact Or.inl ⟨rfl, HB.out, HN.out⟩

set_option maxHeartbeats 1000000 in
theorem pStep_collect (M : SM) (w : World) (h : SAt w M) (Q : Ending → World → Prop)
    (hQ : Calls Try.prog 29 #[.pointer (some ⟨M.b, 0, none⟩)] w fun e w' => ∃ r : Nat, e = .returned (.int .i64 r) ∧ Q (.returned (.bool (decide (0 < r)))) w') :
    Calls Try.prog 11 #[.pointer (some ⟨M.b, 0, none⟩), .int .i64 ((M.mks.length : Int) + M.dos.length)] w Q := by
  have c4 := h.row.cell' (i := 4) rfl
  have c5 := h.row.cell' (i := 5) rfl
  rw [h.mkn] at c4
  rw [h.don] at c5
  have m8 := h.mk8
  have d6 := h.do6
  have hwr : IntKind.i64.wrap ((M.mks.length : Int) + M.dos.length) = (M.mks.length : Int) + M.dos.length := by rw [IntKind.wrap_i64]; omega
  have HQ := hide hQ
  clear h hQ
  generalize M.mks.length = A at *
  generalize M.dos.length = B at *
  have h1 : ¬ (A : Int) + B < 0 := by omega
  have h2 : ¬ (A : Int) + B < (A : Int) := by omega
  have h3 : ¬ (A : Int) + B < (A : Int) + B := by omega
  go_enter Try.func11, Try.ntmps11
  go_wp2_with fail
  refine HQ.out.mono ?_
  rintro e w1 ⟨r, rfl, hq⟩
  have H1 := hide hq
  clear hq HQ
  go_wp2
  exact H1.out

end Go.Proofs.Ytlheloogmgmjnaa

namespace Go.Proofs.Ytlheloogmgmjnaa
open Go.RowKit

def SM.dealtOf (M : SM) (k : Nat) : Nat := (M.mks.map (·.dealt)).getD (k % M.mks.length) 0
def wrote (k : Nat) (t : Tx) : Bool := decide ((k : Int) ∈ t.w)

/-- X: doers whose machines are not spoken of. -/
structure BRel (M : SM) (G : Nat → Nat) (X : Nat → Prop := fun _ => False) : Prop where
  room : M.room = 500
  chk : ∀ t ∈ M.txs, checkN t = 0
  txl : M.txs.length = M.recs.length
  taken : M.taken + sumTo G 24 = (M.txs.map (·.w.length)).sum
  fits : (M.txs.map (·.w.length)).sum ≤ 500
  pos : ∀ e ∈ M.ends, 1 ≤ e
  rise : M.ends.Pairwise (· < ·)
  closedle : M.closed ≤ M.recs.length
  mks1 : 1 ≤ M.mks.length
  dealtle : ∀ m ∈ M.mks, m.dealt ≤ M.closed
  takenle : M.took ≤ M.last
  sorted : ∀ k, VSorted (M.vs k)
  vtxn : ∀ k, ∀ x ∈ M.vs k, 1 ≤ x.txn ∧ x.txn ≤ M.dealtOf k ∧ x.st ≤ 2 ∧ ∃ t, M.txs[x.txn - 1]? = some t ∧ (k : Int) ∈ t.w
  placed : ∀ k, ∀ x ∈ M.vs k, ∀ r, M.recs[x.txn - 1]? = some r → r.ended = true → x.st ≠ 0
  count : ∀ k, (M.vs k).length + G k = (M.txs.take (M.dealtOf k)).countP (wrote k)
  dle : ∀ (i : Nat) (d : SDo), M.dos[i]? = some d → d.txn ≤ M.took
  doer : ∀ (i : Nat) (d : SDo) (m : Nat), ¬ X i → M.dos[i]? = some d → d.txn = m + 1 → ∃ r t, M.recs[m]? = some r ∧ M.txs[m]? = some t ∧ r.ended = false ∧ d.mac.h = r.h ∧ d.mac.next < t.c.length ∧ d.mac.ab = false
  hands : ∀ (i j : Nat) (d e : SDo), M.dos[i]? = some d → M.dos[j]? = some e → d.txn = e.txn → d.txn ≠ 0 → i = j
  fresh : ∀ (m : Nat) (r : PRec), M.recs[m]? = some r → M.took ≤ m → r.ended = false
  undone : ∀ (m : Nat) (r : PRec), M.recs[m]? = some r → m < M.took → r.ended = false → ∃ (i : Nat) (d : SDo), M.dos[i]? = some d ∧ d.txn = m + 1

theorem SM.le_least {M : SM} (h : 1 ≤ M.mks.length) (e : Nat) : (e ≤ M.least ↔ ∀ m ∈ M.mks, e ≤ m.dealt) := by
  unfold SM.least
  rw [le_minOf]
  have hl : 0 < (M.mks.map (·.dealt)).length := by rw [List.length_map]; omega
  constructor
  · intro x m hm
    exact x.2 _ (List.mem_map.2 ⟨m, hm, rfl⟩)
  · intro x
    have hall : ∀ y ∈ M.mks.map (·.dealt), e ≤ y := by
      intro y hy
      obtain ⟨m, hm, rfl⟩ := List.mem_map.1 hy
      exact x m hm
    exact ⟨by rw [nat_get hl]; exact hall _ (List.getElem_mem hl), hall⟩
theorem SM.dealtOf_mem {M : SM} (h : 1 ≤ M.mks.length) (k : Nat) : ∃ m ∈ M.mks, M.dealtOf k = m.dealt := by
  have h1 : k % M.mks.length < M.mks.length := Nat.mod_lt _ h
  refine ⟨M.mks[k % M.mks.length], List.getElem_mem h1, ?_⟩
  unfold SM.dealtOf
  rw [List.getD, List.getElem?_map, List.getElem?_eq_getElem h1]
  rfl
theorem BRel.last_least {M : SM} {G : Nat → Nat} {X : Nat → Prop} (h : BRel M G X) : M.last ≤ M.least := last_le h.rise _
theorem BRel.took_dealt {M : SM} {G : Nat → Nat} {X : Nat → Prop} (h : BRel M G X) : ∀ m ∈ M.mks, M.took ≤ m.dealt := fun m hm => by
  have h1 := h.takenle
  have h2 := h.last_least
  have h3 := (SM.le_least h.mks1 M.least).1 (Nat.le_refl _) m hm
  omega
theorem BRel.dealtOf_le {M : SM} {G : Nat → Nat} {X : Nat → Prop} (h : BRel M G X) (k : Nat) : M.dealtOf k ≤ M.recs.length := by
  obtain ⟨m, hm, e⟩ := SM.dealtOf_mem h.mks1 k
  have h1 := h.dealtle m hm
  have h2 := h.closedle
  omega
theorem BRel.took_dealtOf {M : SM} {G : Nat → Nat} {X : Nat → Prop} (h : BRel M G X) (k : Nat) : M.took ≤ M.dealtOf k := by
  obtain ⟨m, hm, e⟩ := SM.dealtOf_mem h.mks1 k
  rw [e]; exact h.took_dealt m hm
theorem BRel.vs_le {M : SM} {G : Nat → Nat} {X : Nat → Prop} (h : BRel M G X) (k : Nat) : (M.vs k).length ≤ M.recs.length := by
  have h1 := h.count k
  have h2 : (M.txs.take (M.dealtOf k)).countP (wrote k) ≤ (M.txs.take (M.dealtOf k)).length := List.countP_le_length
  have h3 : (M.txs.take (M.dealtOf k)).length ≤ M.txs.length := by rw [List.length_take]; omega
  have := h.txl
  omega

theorem sumTo_one (x : Nat) : ∀ n, sumTo (fun k => if k = x then 1 else 0) n = if x < n then 1 else 0
  | 0 => rfl
  | n + 1 => by
    rw [sumTo, sumTo_one x n]
    by_cases h1 : x < n
    · rw [if_pos h1, if_neg (by omega), if_pos (by omega)]
    · by_cases h2 : n = x
      · rw [if_neg h1, if_pos h2, if_pos (by omega)]
      · rw [if_neg h1, if_neg h2, if_neg (by omega)]
theorem sumTo_keys : ∀ (ws : List Int), ws.Nodup → (∀ x ∈ ws, 0 ≤ x ∧ x < 24) → sumTo (fun k => if (k : Int) ∈ ws then 1 else 0) 24 = ws.length
  | [], _, _ => by
    rw [sumTo_congr (h' := fun _ => 0) 24 (fun k _ => by simp), sumTo_zero]; rfl
  | x :: ws, hn, hr => by
    obtain ⟨h1, h2⟩ := List.nodup_cons.1 hn
    obtain ⟨x0, x24⟩ := hr x (by simp)
    have e : ∀ k : Nat, k < 24 → (if (k : Int) ∈ x :: ws then 1 else 0) = (if k = x.toNat then 1 else 0) + (if (k : Int) ∈ ws then 1 else 0) := by
      intro k _
      by_cases hk : (k : Int) = x
      · rw [if_pos (by rw [hk]; simp), if_pos (by omega), if_neg (by rw [hk]; exact h1)]
      · by_cases hw : (k : Int) ∈ ws
        · rw [if_pos (by simp [hw]), if_neg (by omega), if_pos hw]
        · rw [if_neg (by simp [hk, hw]), if_neg (by omega), if_neg hw]
    rw [sumTo_congr 24 e, sumTo_add, sumTo_one, if_pos (by omega), sumTo_keys ws h2 (fun y hy => hr y (by simp [hy]))]
    simp; omega
theorem nodup_of_apart (xs : List Int) (h : twiceTo xs xs.length = false) : xs.Nodup := by
  rw [List.Nodup, List.pairwise_iff_getElem]
  intro i j hi hj hij e
  have := twice_none h hij hj
  rw [List.getD, List.getD, List.getElem?_eq_getElem hi, List.getElem?_eq_getElem hj] at this
  exact this (by simpa using e)
theorem keys_sum {t : Tx} (h : checkN t = 0) : sumTo (fun k => if wrote k t then 1 else 0) 24 = t.w.length := by
  have := sumTo_keys t.w (nodup_of_apart _ (checkN_apart h)) (fun x hx => (checkN_sound t h).2.2.2.2.1 x hx)
  rw [← this]
  refine sumTo_congr 24 (fun k _ => ?_)
  unfold wrote
  by_cases hk : (k : Int) ∈ t.w
  · simp [hk]
  · simp [hk]
theorem count_sum : ∀ (l : List Tx), (∀ t ∈ l, checkN t = 0) → sumTo (fun k => l.countP (wrote k)) 24 = (l.map (·.w.length)).sum
  | [], _ => sumTo_zero 24
  | t :: l, h => by
    rw [sumTo_congr (h' := fun k => l.countP (wrote k) + (if wrote k t then 1 else 0)) 24 (fun k _ => List.countP_cons ..), sumTo_add, count_sum l (fun x hx => h x (by simp [hx])), keys_sum (h t (by simp))]
    simp; omega
theorem countP_take_le {α : Type} (p : α → Bool) (l : List α) (n : Nat) : (l.take n).countP p ≤ l.countP p := List.Sublist.countP_le (List.take_sublist n l)
theorem sumTo_le {f g : Nat → Nat} : ∀ n, (∀ k, k < n → f k ≤ g k) → sumTo f n ≤ sumTo g n
  | 0, _ => Nat.le_refl _
  | n + 1, h => by
    rw [sumTo, sumTo]
    have h1 := sumTo_le n (fun k hk => h k (by omega))
    have h2 := h n (by omega)
    omega
theorem sumTo_mem (f : Nat → Nat) : ∀ n k, k < n → f k ≤ sumTo f n
  | 0, k, h => by omega
  | n + 1, k, h => by
    rw [sumTo]
    by_cases e : k = n
    · subst e; omega
    · have := sumTo_mem f n k (by omega); omega
/-- There are no more versions than room is taken for. -/
theorem BRel.live_le {M : SM} {G : Nat → Nat} {X : Nat → Prop} (h : BRel M G X) : sumTo (fun k => (M.vs k).length) 24 ≤ M.taken := by
  have h1 : sumTo (fun k => (M.vs k).length + G k) 24 ≤ (M.txs.map (·.w.length)).sum := by
    rw [← count_sum M.txs h.chk]
    refine sumTo_le 24 (fun k _ => ?_)
    rw [h.count k]
    exact countP_take_le _ _ _
  rw [sumTo_add, ← h.taken] at h1
  omega
theorem BRel.vs_taken {M : SM} {G : Nat → Nat} {X : Nat → Prop} (h : BRel M G X) (k : Nat) (hk : k < 24) : (M.vs k).length ≤ M.taken := Nat.le_trans (sumTo_mem (fun k => (M.vs k).length) 24 k hk) h.live_le
theorem BRel.taken500 {M : SM} {G : Nat → Nat} {X : Nat → Prop} (h : BRel M G X) : M.taken ≤ 500 := by have := h.taken; have := h.fits; omega
/-- When all have been dealt with, there are just as many. -/
theorem BRel.live_eq {M : SM} {G : Nat → Nat} {X : Nat → Prop} (h : BRel M G X) (hd : ∀ m ∈ M.mks, m.dealt = M.recs.length) : sumTo (fun k => (M.vs k).length) 24 = M.taken := by
  have h1 : sumTo (fun k => (M.vs k).length + G k) 24 = (M.txs.map (·.w.length)).sum := by
    rw [← count_sum M.txs h.chk]
    refine sumTo_congr 24 (fun k _ => ?_)
    obtain ⟨m, hm, e⟩ := SM.dealtOf_mem h.mks1 k
    rw [h.count k, e, hd m hm, ← h.txl, List.take_length]
  rw [sumTo_add, ← h.taken] at h1
  omega

end Go.Proofs.Ytlheloogmgmjnaa

namespace Go.Proofs.Ytlheloogmgmjnaa
open Go.RowKit

theorem lt_of_some {α : Type} {l : List α} {i : Nat} {x : α} (h : l[i]? = some x) : i < l.length := by
  by_cases hb : i < l.length
  · exact hb
  · rw [List.getElem?_eq_none (by omega)] at h; cases h
theorem get_app {α : Type} {l : List α} {i : Nat} {x y : α} (h : l[i]? = some x) : (l ++ [y])[i]? = some x := by
  rw [List.getElem?_append_left (lt_of_some h)]; exact h
theorem app_get {α : Type} {l : List α} {i : Nat} {x y : α} (h : (l ++ [y])[i]? = some x) : l[i]? = some x ∨ (i = l.length ∧ x = y) := by
  by_cases hi : i < l.length
  · rw [List.getElem?_append_left hi] at h; exact Or.inl h
  · have hl := lt_of_some h
    simp at hl
    obtain rfl : i = l.length := by omega
    rw [List.getElem?_append_right (Nat.le_refl _), Nat.sub_self] at h
    simp at h
    exact Or.inr ⟨rfl, h.symm⟩

theorem b_add {M : SM} {G : Nat → Nat} {X : Nat → Prop} (h : BRel M G X) {r : PRec} {t : Tx} {s : Sl} (hr : r.ended = false) (hc : checkN t = 0) (hf : (M.txs.map (·.w.length)).sum + t.w.length ≤ 500) :
    BRel ((M.withTaken t.w.length).withRec r t s) G X := by
  have hdl : ∀ k, ((M.withTaken t.w.length).withRec r t s).dealtOf k = M.dealtOf k := fun _ => rfl
  have htl : M.took ≤ M.recs.length := by
    have h1 := h.took_dealtOf 0
    have h2 := h.dealtOf_le 0
    omega
  refine
    { h with
      chk := ?_
      txl := ?_
      taken := ?_
      fits := ?_
      closedle := ?_
      vtxn := ?_
      placed := ?_
      count := ?_
      doer := ?_
      fresh := ?_
      undone := ?_ }
  · intro x hx
    rcases List.mem_append.1 (show x ∈ M.txs ++ [t] from hx) with hx | hx
    · exact h.chk x hx
    · rw [List.mem_singleton.1 hx]; exact hc
  · show (M.txs ++ [t]).length = (M.recs ++ [r]).length
    simp [h.txl]
  · show M.taken + t.w.length + sumTo G 24 = ((M.txs ++ [t]).map (·.w.length)).sum
    have := h.taken
    simp; omega
  · show ((M.txs ++ [t]).map (·.w.length)).sum ≤ 500
    simp; omega
  · have := h.closedle
    show M.closed ≤ (M.recs ++ [r]).length
    simp; omega
  · intro k x hx
    obtain ⟨a, b, c, u, hu, hk⟩ := h.vtxn k x hx
    exact ⟨a, b, c, u, get_app hu, hk⟩
  · intro k x hx q hq
    obtain ⟨a, b, _, u, hu, _⟩ := h.vtxn k x hx
    rcases app_get (show (M.recs ++ [r])[x.txn - 1]? = some q from hq) with hq | ⟨e, _⟩
    · exact h.placed k x hx q hq
    · have := lt_of_some hu
      rw [h.txl] at this
      omega
  · intro k
    show (M.vs k).length + G k = ((M.txs ++ [t]).take (M.dealtOf k)).countP (wrote k)
    rw [List.take_append_of_le_length (by rw [h.txl]; exact h.dealtOf_le k)]
    exact h.count k
  · intro i d m hX hd hm
    obtain ⟨q, u, a, b, c⟩ := h.doer i d m hX hd hm
    exact ⟨q, u, get_app a, get_app b, c⟩
  · intro m q hq hm
    rcases app_get (show (M.recs ++ [r])[m]? = some q from hq) with hq | ⟨_, e⟩
    · exact h.fresh m q hq hm
    · rw [e]; exact hr
  · intro m q hq hm he
    rcases app_get (show (M.recs ++ [r])[m]? = some q from hq) with hq | ⟨e, _⟩
    · exact h.undone m q hq hm he
    · have hm' : m < M.took := hm
      omega

theorem SM.closed_eq (M : SM) : M.closed = M.ends.getD (M.ends.length - 1) 0 := by
  unfold SM.closed lastOfN
  split
  · rename_i h0
    have : M.ends = [] := by simpa using h0
    simp [this]
  · rfl
theorem ends_le_last {l : List Nat} (h : l.Pairwise (· < ·)) : ∀ e ∈ l, e ≤ l.getD (l.length - 1) 0 := by
  intro e he
  obtain ⟨i, hi, rfl⟩ := List.getElem_of_mem he
  rw [nat_get (by omega)]
  by_cases e : i = l.length - 1
  · subst e; exact Nat.le_refl _
  · exact Nat.le_of_lt (List.pairwise_iff_getElem.1 h i (l.length - 1) hi (by omega) (by omega))

theorem b_close {M : SM} {G : Nat → Nat} {X : Nat → Prop} (h : BRel M G X) (s : Sl) (hlt : M.closed < M.recs.length) : BRel (M.withEnd s) G X := by
  have hri : (M.ends ++ [M.recs.length]).Pairwise (· < ·) := by
    rw [List.pairwise_append]
    refine ⟨h.rise, by simp, ?_⟩
    intro a ha b hb
    rw [List.mem_singleton.1 hb]
    have := ends_le_last h.rise a ha
    rw [← SM.closed_eq] at this
    omega
  have hcl : (M.withEnd s).closed = M.recs.length := by
    rw [SM.closed_eq]
    show (M.ends ++ [M.recs.length]).getD ((M.ends ++ [M.recs.length]).length - 1) 0 = _
    rw [List.length_append, List.length_singleton, Nat.add_sub_cancel, List.getD, List.getElem?_append_right (Nat.le_refl _), Nat.sub_self]
    rfl
  refine
    { h with
      pos := ?_
      rise := hri
      closedle := by rw [hcl]; exact Nat.le_refl _
      dealtle := ?_
      takenle := ?_ }
  · intro e he
    rcases List.mem_append.1 (show e ∈ M.ends ++ [M.recs.length] from he) with he | he
    · exact h.pos e he
    · rw [List.mem_singleton.1 he]; omega
  · intro m hm
    rw [hcl]
    have := h.dealtle m hm
    omega
  · refine Nat.le_trans h.takenle ?_
    exact last_mono h.rise hri (fun e he => List.mem_append.2 (Or.inl he)) (Nat.le_refl _)

theorem dealtOf_deal {M : SM} {i d : Nat} {m : SMk} (hi : M.mks[i]? = some m) (k : Nat) : (M.deal i d m).dealtOf k = if k % M.mks.length = i then d else M.dealtOf k := by
  have hil := lt_of_some hi
  show ((M.mks.set i { m with dealt := d }).map (·.dealt)).getD (k % (M.mks.set i { m with dealt := d }).length) 0 = _
  rw [List.length_set, List.map_set, getD_set (by simpa using hil)]
  rfl

theorem b_maker {M : SM} {G : Nat → Nat} {X : Nat → Prop} (h : BRel M G X) {i : Nat} {m : SMk} (hi : M.mks[i]? = some m) (hd : m.dealt < M.closed) {t : Tx} (ht : M.txs[m.dealt]? = some t) (vS : Nat → Option Sl) :
    BRel ((M.deal i (m.dealt + 1) m).mades i (m.dealt + 1) t.w t.w.length vS) G X := by
  have hil := lt_of_some hi
  have hml : M.mks[i] = m := by rw [List.getElem?_eq_getElem hil] at hi; exact Option.some.inj hi
  have hmem : m ∈ M.mks := hml ▸ List.getElem_mem hil
  have hdo : ∀ k, k % M.mks.length = i → M.dealtOf k = m.dealt := by
    intro k hk
    unfold SM.dealtOf
    rw [List.getD, List.getElem?_map, hk, hi]; rfl
  have hlen : ((M.mks.set i { m with dealt := m.dealt + 1 })).length = M.mks.length := by simp
  have hvs : ∀ k, madeVs (M.deal i (m.dealt + 1) m) i (m.dealt + 1) t.w t.w.length k = M.vs k ++ (if (k : Int) ∈ t.w ∧ k % M.mks.length = i then [⟨m.dealt + 1, 0, 0, false⟩] else []) := by
    intro k
    show M.vs k ++ (if (k : Int) ∈ t.w.take t.w.length ∧ k % (M.mks.set i { m with dealt := m.dealt + 1 }).length = i then [⟨m.dealt + 1, 0, 0, false⟩] else []) = _
    rw [List.take_length, hlen]
  have hmb : ∀ k x, x ∈ madeVs (M.deal i (m.dealt + 1) m) i (m.dealt + 1) t.w t.w.length k → x ∈ M.vs k ∨ ((k : Int) ∈ t.w ∧ k % M.mks.length = i ∧ x = ⟨m.dealt + 1, 0, 0, false⟩) := by
    intro k x hx
    rw [hvs k] at hx
    rcases List.mem_append.1 hx with hx | hx
    · exact Or.inl hx
    · split at hx
      · rename_i hc
        exact Or.inr ⟨hc.1, hc.2, List.mem_singleton.1 hx⟩
      · simp at hx
  have hdk : ∀ k, ((M.deal i (m.dealt + 1) m).mades i (m.dealt + 1) t.w t.w.length vS).dealtOf k = if k % M.mks.length = i then m.dealt + 1 else M.dealtOf k := fun k => dealtOf_deal hi k
  have hge : ∀ k, M.dealtOf k ≤ if k % M.mks.length = i then m.dealt + 1 else M.dealtOf k := by
    intro k
    split
    · rename_i hk; rw [hdo k hk]; omega
    · exact Nat.le_refl _
  refine
    { h with
      mks1 := by show 1 ≤ (M.mks.set i _).length; rw [List.length_set]; exact h.mks1
      dealtle := ?_
      takenle := ?_
      sorted := ?_
      vtxn := ?_
      placed := ?_
      count := ?_ }
  · intro q hq
    show q.dealt ≤ M.closed
    rcases List.mem_or_eq_of_mem_set (show q ∈ M.mks.set i _ from hq) with hq | hq
    · exact h.dealtle q hq
    · rw [hq]; exact hd
  · refine Nat.le_trans h.takenle ?_
    refine last_mono h.rise h.rise (fun _ q => q) ?_
    have h1 : 1 ≤ (M.mks.set i { m with dealt := m.dealt + 1 }).length := by rw [hlen]; exact h.mks1
    refine (SM.le_least (M := (M.deal i (m.dealt + 1) m).mades i (m.dealt + 1) t.w t.w.length vS) h1 _).2 ?_
    intro q hq
    have hle := (SM.le_least h.mks1 M.least).1 (Nat.le_refl _)
    rcases List.mem_or_eq_of_mem_set (show q ∈ M.mks.set i _ from hq) with hq | hq
    · exact hle q hq
    · rw [hq]; have := hle m hmem; show M.least ≤ m.dealt + 1; omega
  · intro k
    show VSorted (madeVs _ _ _ _ _ k)
    rw [hvs k]
    unfold VSorted
    rw [List.pairwise_append]
    refine ⟨h.sorted k, by split <;> simp, ?_⟩
    intro a ha b hb
    split at hb
    · rename_i hc
      rw [List.mem_singleton.1 hb]
      have := (h.vtxn k a ha).2.1
      rw [hdo k hc.2] at this
      show a.txn < m.dealt + 1
      omega
    · simp at hb
  · intro k x hx
    rw [hdk k]
    rcases hmb k x hx with hx | ⟨h1, h2, rfl⟩
    · obtain ⟨a, b, c⟩ := h.vtxn k x hx
      exact ⟨a, Nat.le_trans b (hge k), c⟩
    · rw [if_pos h2]
      exact ⟨by show 1 ≤ m.dealt + 1; omega, Nat.le_refl _, by show 0 ≤ 2; omega, t, by show M.txs[m.dealt + 1 - 1]? = _; rw [Nat.add_sub_cancel]; exact ht, h1⟩
  · intro k x hx q hq he
    rcases hmb k x hx with hx | ⟨h1, h2, rfl⟩
    · exact h.placed k x hx q hq he
    · have hq' : M.recs[m.dealt + 1 - 1]? = some q := hq
      rw [Nat.add_sub_cancel] at hq'
      rw [h.fresh m.dealt q hq' (h.took_dealt m hmem)] at he
      cases he
  · intro k
    show (madeVs _ _ _ _ _ k).length + G k = (M.txs.take _).countP (wrote k)
    rw [hdk k, hvs k, List.length_append]
    have hcnt := h.count k
    by_cases hk : k % M.mks.length = i
    · rw [if_pos hk, countP_take_succ M.txs (wrote k) (lt_of_some ht)]
      rw [hdo k hk] at hcnt
      rw [List.getElem?_eq_getElem (lt_of_some ht)] at ht
      rw [Option.some.inj ht]
      by_cases hw : (k : Int) ∈ t.w
      · rw [if_pos ⟨hw, hk⟩, if_pos (by simp [wrote, hw])]
        show _ + 1 + _ = _
        omega
      · rw [if_neg (fun q => hw q.1), if_neg (by simp [wrote, hw])]
        show _ + 0 + _ = _
        omega
    · rw [if_neg hk, if_neg (fun q => hk q.2)]
      show _ + 0 + _ = _
      omega

end Go.Proofs.Ytlheloogmgmjnaa

namespace Go.Proofs.Ytlheloogmgmjnaa
open Go.RowKit

theorem settleV_mem {l : List Ver} {txn st : Nat} {v : Int} {th : Bool} {x : Ver} (h : x ∈ settleV l txn st v th) : (x ∈ l ∧ x.txn ≠ txn) ∨ (x = ⟨txn, st, v, th⟩ ∧ ∃ y ∈ l, y.txn = txn) := by
  unfold settleV at h
  obtain ⟨y, hy, rfl⟩ := List.mem_map.1 h
  by_cases e : y.txn = txn
  · rw [if_pos e]; exact Or.inr ⟨rfl, y, hy, e⟩
  · rw [if_neg e]; exact Or.inl ⟨hy, e⟩
theorem settleV_sorted {l : List Ver} (h : VSorted l) (txn st : Nat) (v : Int) (th : Bool) : VSorted (settleV l txn st v th) := by
  have e : ∀ y : Ver, (if y.txn = txn then (⟨txn, st, v, th⟩ : Ver) else y).txn = y.txn := by
    intro y
    split
    · rename_i h; exact h.symm
    · rfl
  unfold VSorted settleV
  rw [List.pairwise_map]
  exact List.Pairwise.imp (fun {a b} hab => by rw [e a, e b]; exact hab) h
theorem settleTo_mem (vs : Nat → List Ver) (txn : Nat) (ws : List Int) (sd : Nat → Say) (k : Nat) : ∀ j x, x ∈ settleTo vs txn ws sd j k → (x ∈ vs k ∧ (x.txn = txn → ∀ i, i < j → ws.getD i 0 ≠ (k : Int))) ∨ (x.txn = txn ∧ 1 ≤ x.st ∧ x.st ≤ 2 ∧ ∃ y ∈ vs k, y.txn = txn)
  | 0, x, hx => Or.inl ⟨hx, fun _ i hi => by omega⟩
  | j + 1, x, hx => by
    rw [settleTo_succ] at hx
    by_cases e : (k : Int) = ws.getD j 0
    · rw [if_pos e] at hx
      have key : ∀ {st : Nat} {v : Int} {th : Bool}, 1 ≤ st → st ≤ 2 → x ∈ settleV (settleTo vs txn ws sd j k) txn st v th → (x ∈ vs k ∧ (x.txn = txn → ∀ i, i < j + 1 → ws.getD i 0 ≠ (k : Int))) ∨ (x.txn = txn ∧ 1 ≤ x.st ∧ x.st ≤ 2 ∧ ∃ y ∈ vs k, y.txn = txn) := by
        intro st v th h1 h2 hx
        rcases settleV_mem hx with ⟨hx, hne⟩ | ⟨rfl, y, hy, hyt⟩
        · rcases settleTo_mem vs txn ws sd k j x hx with ⟨a, _⟩ | ⟨a, _⟩
          · exact Or.inl ⟨a, fun q => absurd q hne⟩
          · exact absurd a hne
        · rcases settleTo_mem vs txn ws sd k j y hy with ⟨a, _⟩ | ⟨_, _, _, a⟩
          · exact Or.inr ⟨rfl, h1, h2, y, a, hyt⟩
          · exact Or.inr ⟨rfl, h1, h2, a⟩
      split at hx
      · exact key (by omega) (by omega) hx
      · exact key (by omega) (by omega) hx
    · rw [if_neg e] at hx
      rcases settleTo_mem vs txn ws sd k j x hx with ⟨a, b⟩ | a
      · refine Or.inl ⟨a, fun q i hi => ?_⟩
        by_cases q2 : i = j
        · rw [q2]; exact fun z => e z.symm
        · exact b q i (by omega)
      · exact Or.inr a
theorem settleTo_sorted {vs : Nat → List Ver} (txn : Nat) (ws : List Int) (sd : Nat → Say) (k : Nat) (h : VSorted (vs k)) : ∀ j, VSorted (settleTo vs txn ws sd j k)
  | 0 => h
  | j + 1 => by
    have := settleTo_sorted txn ws sd k h j
    rw [settleTo_succ]
    split
    · split
      · exact settleV_sorted this _ _ _ _
      · exact settleV_sorted this _ _ _ _
    · exact this

/-- A doer's transaction has ended. -/
theorem b_free {M : SM} {G : Nat → Nat} {n m : Nat} (h : BRel M G (· = n)) {d : SDo} (hn : M.dos[n]? = some d) (hdm : d.txn = m + 1) {t : Tx} (ht : M.txs[m]? = some t) (sd : Nat → Say) (ab : Bool) (out : Int) :
    BRel (M.freed n m t.w sd ab out) G := by
  have hnl := lt_of_some hn
  have hml : m < M.recs.length := by rw [← h.txl]; exact lt_of_some ht
  have hmt : m < M.took := by have := h.dle n d hn; omega
  have hrec : ∀ i r, (M.recs.set m (PRec.endAs ab out))[i]? = some r → (i = m ∧ r = PRec.endAs ab out) ∨ (i ≠ m ∧ M.recs[i]? = some r) := by
    intro i r hr
    by_cases e : i = m
    · subst e
      rw [List.getElem?_set_self hml] at hr
      exact Or.inl ⟨rfl, (Option.some.inj hr).symm⟩
    · rw [List.getElem?_set_ne (fun q => e q.symm)] at hr
      exact Or.inr ⟨e, hr⟩
  have hdo : ∀ i x, (M.dos.set n ⟨0, Mac.zero⟩)[i]? = some x → (i = n ∧ x.txn = 0) ∨ (i ≠ n ∧ M.dos[i]? = some x) := by
    intro i x hx
    by_cases e : i = n
    · subst e
      rw [List.getElem?_set_self hnl] at hx
      rw [← Option.some.inj hx]
      exact Or.inl ⟨rfl, rfl⟩
    · rw [List.getElem?_set_ne (fun q => e q.symm)] at hx
      exact Or.inr ⟨e, hx⟩
  refine
    { h with
      txl := by show M.txs.length = (M.recs.set m _).length; rw [List.length_set]; exact h.txl
      closedle := by show M.closed ≤ (M.recs.set m _).length; rw [List.length_set]; exact h.closedle
      sorted := fun k => settleTo_sorted _ _ _ k (h.sorted k) _
      vtxn := ?_
      placed := ?_
      count := ?_
      dle := ?_
      doer := ?_
      hands := ?_
      fresh := ?_
      undone := ?_ }
  · intro k x hx
    rcases settleTo_mem M.vs (m + 1) t.w sd k t.w.length x hx with ⟨a, _⟩ | ⟨a, b1, b2, y, hy, hyt⟩
    · exact h.vtxn k x a
    · obtain ⟨c1, c2, _, c4⟩ := h.vtxn k y hy
      rw [hyt] at c1 c2 c4
      rw [a]
      exact ⟨c1, c2, b2, c4⟩
  · intro k x hx r hr he
    rcases settleTo_mem M.vs (m + 1) t.w sd k t.w.length x hx with ⟨a, b⟩ | ⟨_, b1, _⟩
    · rcases hrec _ r hr with ⟨e, _⟩ | ⟨_, hr⟩
      · exfalso
        obtain ⟨c1, _, _, u, hu, hk⟩ := h.vtxn k x a
        rw [e, ht] at hu
        obtain rfl := Option.some.inj hu
        obtain ⟨i, hi, he⟩ := List.getElem_of_mem hk
        refine b (by omega) i hi ?_
        rw [List.getD, List.getElem?_eq_getElem hi, he]; rfl
      · exact h.placed k x a r hr he
    · omega
  · intro k
    show (settleTo M.vs (m + 1) t.w sd t.w.length k).length + G k = _
    rw [settleTo_length]
    exact h.count k
  · intro i x hx
    rcases hdo i x hx with ⟨_, e⟩ | ⟨_, hx⟩
    · rw [e]; exact Nat.zero_le _
    · exact h.dle i x hx
  · intro i x m' _ hx hm'
    rcases hdo i x hx with ⟨_, e⟩ | ⟨e, hx⟩
    · omega
    · obtain ⟨r, u, a, b, c⟩ := h.doer i x m' e hx hm'
      have hne : m' ≠ m := fun q => e (h.hands i n x d hx hn (by omega) (by omega))
      exact ⟨r, u, by show (M.recs.set m _)[m']? = _; rw [List.getElem?_set_ne (fun q => hne q.symm)]; exact a, b, c⟩
  · intro i j x y hx hy e1 e2
    rcases hdo i x hx with ⟨_, e⟩ | ⟨_, hx⟩
    · exact absurd e e2
    · rcases hdo j y hy with ⟨_, e⟩ | ⟨_, hy⟩
      · omega
      · exact h.hands i j x y hx hy e1 e2
  · intro m' r hr hm'
    have hm2 : M.took ≤ m' := hm'
    rcases hrec _ r hr with ⟨e, _⟩ | ⟨_, hr⟩
    · omega
    · exact h.fresh m' r hr hm2
  · intro m' r hr hm' he
    rcases hrec _ r hr with ⟨_, e⟩ | ⟨hne, hr⟩
    · rw [e] at he; cases he
    · obtain ⟨i, x, hx, hxt⟩ := h.undone m' r hr hm' he
      refine ⟨i, x, ?_, hxt⟩
      have hin : i ≠ n := by
        intro q
        subst q
        rw [hn] at hx
        obtain rfl := Option.some.inj hx
        omega
      show (M.dos.set n _)[i]? = some x
      rw [List.getElem?_set_ne (fun q => hin q.symm)]; exact hx

theorem b_take {M : SM} {G : Nat → Nat} {n : Nat} (h : BRel M G) {d : SDo} (hn : M.dos[n]? = some d) (h0 : d.txn = 0) (hc : M.took < M.last) (mac : Mac) :
    BRel { M with took := M.took + 1, dos := M.dos.set n ⟨M.took + 1, mac⟩ } G (· = n) := by
  have hnl := lt_of_some hn
  have hdo : ∀ i x, (M.dos.set n ⟨M.took + 1, mac⟩)[i]? = some x → (i = n ∧ x.txn = M.took + 1) ∨ (i ≠ n ∧ M.dos[i]? = some x) := by
    intro i x hx
    by_cases e : i = n
    · subst e
      rw [List.getElem?_set_self hnl] at hx
      rw [← Option.some.inj hx]
      exact Or.inl ⟨rfl, rfl⟩
    · rw [List.getElem?_set_ne (fun q => e q.symm)] at hx
      exact Or.inr ⟨e, hx⟩
  refine
    { h with
      takenle := hc
      dle := ?_
      doer := ?_
      hands := ?_
      fresh := ?_
      undone := ?_ }
  · intro i x hx
    show x.txn ≤ M.took + 1
    rcases hdo i x hx with ⟨_, e⟩ | ⟨_, hx⟩
    · omega
    · have := h.dle i x hx; omega
  · intro i x m' e hx hm'
    rcases hdo i x hx with ⟨q, _⟩ | ⟨_, hx⟩
    · exact absurd q e
    · exact h.doer i x m' id hx hm'
  · intro i j x y hx hy e1 e2
    rcases hdo i x hx with ⟨q1, e⟩ | ⟨_, hx⟩
    · rcases hdo j y hy with ⟨q2, _⟩ | ⟨_, hy⟩
      · omega
      · have := h.dle j y hy; omega
    · rcases hdo j y hy with ⟨q2, e⟩ | ⟨_, hy⟩
      · have := h.dle i x hx; omega
      · exact h.hands i j x y hx hy e1 e2
  · intro m' r hr hm'
    have hm2 : M.took + 1 ≤ m' := hm'
    exact h.fresh m' r hr (by omega)
  · intro m' r hr hm' he
    have hm2 : m' < M.took + 1 := hm'
    by_cases e : m' = M.took
    · exact ⟨n, ⟨M.took + 1, mac⟩, List.getElem?_set_self hnl, by rw [e]⟩
    · obtain ⟨i, x, hx, hxt⟩ := h.undone m' r hr (by omega) he
      refine ⟨i, x, ?_, hxt⟩
      have hin : i ≠ n := by
        intro q
        subst q
        rw [hn] at hx
        obtain rfl := Option.some.inj hx
        omega
      show (M.dos.set n _)[i]? = some x
      rw [List.getElem?_set_ne (fun q => hin q.symm)]; exact hx

theorem b_turn {M : SM} {G : Nat → Nat} {n m : Nat} (h : BRel M G) {d : SDo} (hn : M.dos[n]? = some d) (hdm : d.txn = m + 1) (mac : Mac) :
    BRel { M with dos := M.dos.set n ⟨m + 1, mac⟩ } G (· = n) := by
  have hnl := lt_of_some hn
  have hdo : ∀ i x, (M.dos.set n ⟨m + 1, mac⟩)[i]? = some x → (i = n ∧ x.txn = m + 1) ∨ (i ≠ n ∧ M.dos[i]? = some x) := by
    intro i x hx
    by_cases e : i = n
    · subst e
      rw [List.getElem?_set_self hnl] at hx
      rw [← Option.some.inj hx]
      exact Or.inl ⟨rfl, rfl⟩
    · rw [List.getElem?_set_ne (fun q => e q.symm)] at hx
      exact Or.inr ⟨e, hx⟩
  have hback : ∀ (i : Nat) (x : SDo), M.dos[i]? = some x → ∃ y : SDo, (M.dos.set n ⟨m + 1, mac⟩)[i]? = some y ∧ y.txn = x.txn := by
    intro i x hx
    by_cases e : i = n
    · subst e
      rw [hn] at hx
      obtain rfl := Option.some.inj hx
      exact ⟨_, List.getElem?_set_self hnl, hdm.symm⟩
    · exact ⟨x, by rw [List.getElem?_set_ne (fun q => e q.symm)]; exact hx, rfl⟩
  have hold : ∀ (i : Nat) (x : SDo), (M.dos.set n ⟨m + 1, mac⟩)[i]? = some x → ∃ y : SDo, M.dos[i]? = some y ∧ y.txn = x.txn := by
    intro i x hx
    rcases hdo i x hx with ⟨q, e⟩ | ⟨_, hx⟩
    · subst q; exact ⟨d, hn, by omega⟩
    · exact ⟨x, hx, rfl⟩
  refine
    { h with
      dle := ?_
      doer := ?_
      hands := ?_
      undone := ?_ }
  · intro i x hx
    obtain ⟨y, hy, e⟩ := hold i x hx
    rw [← e]; exact h.dle i y hy
  · intro i x m' e hx hm'
    rcases hdo i x hx with ⟨q, _⟩ | ⟨_, hx⟩
    · exact absurd q e
    · exact h.doer i x m' id hx hm'
  · intro i j x y hx hy e1 e2
    obtain ⟨x', hx', ex⟩ := hold i x hx
    obtain ⟨y', hy', ey⟩ := hold j y hy
    exact h.hands i j x' y' hx' hy' (by omega) (by omega)
  · intro m' r hr hm' he
    obtain ⟨i, x, hx, hxt⟩ := h.undone m' r hr hm' he
    obtain ⟨y, hy, e⟩ := hback i x hx
    exact ⟨i, y, hy, by omega⟩

/-- What is left of the exempt doer's transaction. -/
theorem b_endD {M : SM} {G : Nat → Nat} {n m : Nat} (h : BRel M G (· = n)) {mac : Mac} (hn : M.dos[n]? = some ⟨m + 1, mac⟩) {t : Tx} {r : PRec} (ht : M.txs[m]? = some t) (hr : M.recs[m]? = some r) (he : r.ended = false) (hh : mac.h = r.h) (hcn : r.h.c.n = t.c.length) :
    BRel (M.endD n m ⟨m + 1, mac⟩ t) G := by
  unfold SM.endD
  by_cases hf : (mac.ab || decide (mac.h.c.n ≤ mac.next)) = true
  · rw [if_pos hf]
    exact b_free h hn rfl ht _ _ _
  · rw [if_neg hf]
    have hab : mac.ab = false := by
      cases hq : mac.ab with
      | false => rfl
      | true => rw [hq] at hf; exact absurd rfl hf
    have hnx : mac.next < t.c.length := by
      by_cases q : mac.next < t.c.length
      · exact q
      · rw [hab, hh, hcn] at hf
        exact absurd (by simp; omega) hf
    exact
      { h with
        doer := fun i x m' _ hx hm' => by
          by_cases e : i = n
          · subst e
            rw [hn] at hx
            obtain rfl := Option.some.inj hx
            obtain rfl : m = m' := by simpa using hm'
            exact ⟨r, t, hr, ht, he, hh, hnx, hab⟩
          · exact h.doer i x m' e hx hm' }

/-- Versions of a key have gone. -/
theorem b_collect {M : SM} {G : Nat → Nat} {X : Nat → Prop} (h : BRel M G X) {key u : Nat} (hk : key < 24) (hu : u ≤ (M.vs key).length) (txn : Nat) (v : Int) (th : Bool) (s : Sl) :
    BRel (M.collected key u ((settleV (M.vs key) txn 2 v th).drop u) s) (fun k => if k = key then G k + u else G k) X := by
  have hvs : ∀ k, (M.collected key u ((settleV (M.vs key) txn 2 v th).drop u) s).vs k = if k = key then (settleV (M.vs key) txn 2 v th).drop u else M.vs k := fun _ => rfl
  have hsub : ∀ k x, x ∈ (M.collected key u ((settleV (M.vs key) txn 2 v th).drop u) s).vs k → x ∈ M.vs k ∨ (k = key ∧ x.st = 2 ∧ ∃ y ∈ M.vs k, y.txn = x.txn) := by
    intro k x hx
    rw [hvs] at hx
    by_cases e : k = key
    · rw [if_pos e] at hx
      rcases settleV_mem (List.mem_of_mem_drop hx) with ⟨a, _⟩ | ⟨rfl, y, hy, hyt⟩
      · rw [e]; exact Or.inl a
      · exact Or.inr ⟨e, rfl, y, by rw [e]; exact hy, hyt⟩
    · rw [if_neg e] at hx; exact Or.inl hx
  have htk := h.vs_taken key hk
  refine
    { h with
      taken := ?_
      sorted := ?_
      vtxn := ?_
      placed := ?_
      count := ?_ }
  · show M.taken - u + sumTo (fun k => if k = key then G k + u else G k) 24 = _
    have e : sumTo (fun k => if k = key then G k + u else G k) 24 = sumTo G 24 + u := by
      rw [sumTo_congr (h' := fun k => G k + (if k = key then 1 else 0) * u) 24 (fun k _ => by split <;> simp), sumTo_add]
      congr 1
      have : ∀ n, sumTo (fun k => (if k = key then 1 else 0) * u) n = (if key < n then 1 else 0) * u := by
        intro n
        induction n with
        | zero => simp [sumTo]
        | succ n ih =>
          rw [sumTo, ih]
          by_cases h1 : key < n
          · rw [if_pos h1, if_neg (show ¬ n = key by omega), if_pos (show key < n + 1 by omega)]; omega
          · by_cases h2 : n = key
            · rw [if_neg h1, if_pos h2, if_pos (show key < n + 1 by omega)]; omega
            · rw [if_neg h1, if_neg h2, if_neg (show ¬ key < n + 1 by omega)]; omega
      rw [this, if_pos hk]; omega
    rw [e]
    have := h.taken
    show _ = (M.txs.map (·.w.length)).sum
    omega
  · intro k
    rw [hvs]
    split
    · exact List.Pairwise.sublist (List.drop_sublist _ _) (settleV_sorted (h.sorted key) _ _ _ _)
    · exact h.sorted k
  · intro k x hx
    rcases hsub k x hx with a | ⟨_, b, y, hy, hyt⟩
    · exact h.vtxn k x a
    · obtain ⟨c1, c2, _, c4⟩ := h.vtxn k y hy
      rw [hyt] at c1 c2 c4
      exact ⟨c1, c2, by omega, c4⟩
  · intro k x hx r hr he
    rcases hsub k x hx with a | ⟨_, b, _⟩
    · exact h.placed k x a r hr he
    · omega
  · intro k
    rw [hvs]
    show _ + (if k = key then G k + u else G k) = _
    have hcnt := h.count k
    by_cases e : k = key
    · subst e
      rw [if_pos rfl, if_pos rfl, List.length_drop, settleV_length]
      show _ = (M.txs.take (M.dealtOf k)).countP (wrote k)
      omega
    · rw [if_neg e, if_neg e]
      exact hcnt

end Go.Proofs.Ytlheloogmgmjnaa

namespace Go.Proofs.Ytlheloogmgmjnaa
open Go.RowKit

def SM.dwork (T : List Tx) (d : SDo) : Nat := if d.txn = 0 then 0 else (T.getD (d.txn - 1) Tx.nil).c.length - d.mac.next
def SM.work (M : SM) : Nat := ((M.txs.drop M.took).map fun t => 1 + t.c.length).sum + (M.dos.map (SM.dwork M.txs)).sum

theorem sum_set {α : Type} (f : α → Nat) : ∀ (l : List α) (n : Nat) (x y : α), l[n]? = some y → ((l.set n x).map f).sum + f y = (l.map f).sum + f x
  | [], n, x, y, h => by simp at h
  | z :: l, 0, x, y, h => by
    simp at h
    subst h
    simp; omega
  | z :: l, n + 1, x, y, h => by
    have := sum_set f l n x y (by simpa using h)
    simp only [List.set_cons_succ, List.map_cons, List.sum_cons]
    omega

/-- What stays when a step is made. -/
structure KeptS (M M' : SM) : Prop where
  b : M'.b = M.b
  txs : M'.txs = M.txs
  ends : M'.ends = M.ends
  recs : M'.recs.length = M.recs.length
  mks : M'.mks.length = M.mks.length
  dos : M'.dos.length = M.dos.length
  dealt : ∀ (i : Nat) (m m' : SMk), M.mks[i]? = some m → M'.mks[i]? = some m' → m.dealt ≤ m'.dealt
  work : M'.work ≤ M.work
theorem KeptS.refl (M : SM) : KeptS M M := ⟨rfl, rfl, rfl, rfl, rfl, rfl, fun i m m' h1 h2 => by rw [h1] at h2; rw [Option.some.inj h2]; exact Nat.le_refl _, Nat.le_refl _⟩
theorem KeptS.trans {M M' M'' : SM} (h : KeptS M M') (k : KeptS M' M'') : KeptS M M'' :=
  ⟨k.b.trans h.b, k.txs.trans h.txs, k.ends.trans h.ends, k.recs.trans h.recs, k.mks.trans h.mks, k.dos.trans h.dos, fun i m m'' h1 h2 => by
    have hl : i < M'.mks.length := by rw [h.mks]; exact lt_of_some h1
    exact Nat.le_trans (h.dealt i m _ h1 (List.getElem?_eq_getElem hl)) (k.dealt i _ m'' (List.getElem?_eq_getElem hl) h2), Nat.le_trans k.work h.work⟩

theorem work_endD (M : SM) (n m : Nat) (d : SDo) (t : Tx) {x : SDo} (hn : M.dos[n]? = some x) : (M.endD n m d t).work ≤ M.work := by
  unfold SM.endD
  split
  · show _ + ((M.dos.set n ⟨0, Mac.zero⟩).map (SM.dwork M.txs)).sum ≤ _ + (M.dos.map (SM.dwork M.txs)).sum
    have := sum_set (SM.dwork M.txs) M.dos n ⟨0, Mac.zero⟩ x hn
    have e0 : SM.dwork M.txs ⟨0, Mac.zero⟩ = 0 := by unfold SM.dwork; rw [if_pos rfl]
    rw [e0] at this
    show ((M.txs.drop M.took).map _).sum + _ ≤ _
    omega
  · exact Nat.le_refl _
theorem kept_endD (M : SM) (n m : Nat) (d : SDo) (t : Tx) {x : SDo} (hn : M.dos[n]? = some x) : KeptS M (M.endD n m d t) := by
  have hw := work_endD M n m d t hn
  unfold SM.endD at hw ⊢
  split
  · rename_i hf
    rw [if_pos hf] at hw
    exact ⟨rfl, rfl, rfl, by show (M.recs.set m _).length = _; simp, rfl, by show (M.dos.set n _).length = _; simp, fun i a b h1 h2 => by
      have h2' : M.mks[i]? = some b := h2
      rw [h1] at h2'; rw [Option.some.inj h2']; exact Nat.le_refl _, hw⟩
  · exact KeptS.refl M
theorem work_take {M : SM} {n : Nat} {d : SDo} (hn : M.dos[n]? = some d) (h0 : d.txn = 0) {t : Tx} (ht : M.txs[M.took]? = some t) (h : TH) :
    { M with took := M.took + 1, dos := M.dos.set n ⟨M.took + 1, Mac.begin h⟩ }.work + 1 = M.work := by
  show ((M.txs.drop (M.took + 1)).map fun t => 1 + t.c.length).sum + ((M.dos.set n ⟨M.took + 1, Mac.begin h⟩).map (SM.dwork M.txs)).sum + 1 = ((M.txs.drop M.took).map fun t => 1 + t.c.length).sum + (M.dos.map (SM.dwork M.txs)).sum
  have hl := lt_of_some ht
  have e : M.txs[M.took] = t := by rw [List.getElem?_eq_getElem hl] at ht; exact Option.some.inj ht
  rw [List.drop_eq_getElem_cons hl, List.map_cons, List.sum_cons, e]
  have := sum_set (SM.dwork M.txs) M.dos n ⟨M.took + 1, Mac.begin h⟩ d hn
  have e0 : SM.dwork M.txs d = 0 := by unfold SM.dwork; rw [if_pos h0]
  have e1 : SM.dwork M.txs ⟨M.took + 1, Mac.begin h⟩ = t.c.length := by
    unfold SM.dwork
    rw [if_neg (show ¬ M.took + 1 = 0 by omega)]
    show (M.txs.getD (M.took + 1 - 1) Tx.nil).c.length - 0 = _
    rw [Nat.add_sub_cancel, List.getD, ht]; rfl
  rw [e0, e1] at this
  omega
theorem work_turn {M : SM} {n m : Nat} {d : SDo} (hn : M.dos[n]? = some d) (hdm : d.txn = m + 1) {t : Tx} (ht : M.txs[m]? = some t) (hl : d.mac.next < t.c.length) {mac : Mac} (hnx : d.mac.next < mac.next) :
    { M with dos := M.dos.set n ⟨m + 1, mac⟩ }.work < M.work := by
  show _ + ((M.dos.set n ⟨m + 1, mac⟩).map (SM.dwork M.txs)).sum < _ + (M.dos.map (SM.dwork M.txs)).sum
  have := sum_set (SM.dwork M.txs) M.dos n ⟨m + 1, mac⟩ d hn
  have e0 : SM.dwork M.txs d = t.c.length - d.mac.next := by
    unfold SM.dwork
    rw [if_neg (by omega), hdm, Nat.add_sub_cancel, List.getD, ht]; rfl
  have e1 : SM.dwork M.txs ⟨m + 1, mac⟩ = t.c.length - mac.next := by
    unfold SM.dwork
    rw [if_neg (show ¬ m + 1 = 0 by omega)]
    show (M.txs.getD (m + 1 - 1) Tx.nil).c.length - mac.next = _
    rw [Nat.add_sub_cancel, List.getD, ht]; rfl
  rw [e0, e1] at this
  show ((M.txs.drop M.took).map fun t => 1 + t.c.length).sum + _ < ((M.txs.drop M.took).map fun t => 1 + t.c.length).sum + _
  omega
theorem mdo_next (m : Mac) (x : Ins) : m.next ≤ (mdo m x).next := by
  unfold mdo
  split
  · exact Nat.le_refl _
  · split
    · exact Nat.le_refl _
    · split
      · split
        · show m.next ≤ m.next + _; omega
        · exact Nat.le_refl _
      · split <;> exact Nat.le_refl _

/-- Does a doer's step do anything? -/
def SM.actsD (M : SM) (d : SDo) : Bool :=
  if d.txn = 0 then decide (M.took ≠ M.last)
  else if ((M.txs.getD (d.txn - 1) Tx.nil).c.getD d.mac.next Ins.zero).op = 6 ∨ ((M.txs.getD (d.txn - 1) Tx.nil).c.getD d.mac.next Ins.zero).op = 7
    then (behindV (M.vs ((M.txs.getD (d.txn - 1) Tx.nil).r.getD ((M.txs.getD (d.txn - 1) Tx.nil).c.getD d.mac.next Ins.zero).b.toNat 0).toNat) (d.txn - 1 : Nat) (M.vs ((M.txs.getD (d.txn - 1) Tx.nil).r.getD ((M.txs.getD (d.txn - 1) Tx.nil).c.getD d.mac.next Ins.zero).b.toNat 0).toNat).length).2.2
    else true

theorem bdoer_any (M : SM) (G : Nat → Nat) (ha : BRel M G) (w : World) (h : SAt w M) (n : Nat) (d : SDo) (hx : M.dos[n]? = some d) (g : Nat) (hg : M.doS.a = some ⟨g, 0, none⟩) :
    Calls Try.prog 28 #[.pointer (some ⟨M.b, 0, none⟩), .pointer (some ⟨g, n * 30, none⟩)] w fun e w' => ∃ M', e = .returned (.bool (M.actsD d)) ∧ SAt w' M' ∧ BRel M' G ∧ KeptS M M' ∧ (M.actsD d = false → M' = M) ∧ (M.actsD d = true → M'.work < M.work) ∧ M'.mks = M.mks ∧ Chg w w' (fun k => k ∈ M.mut) ∧ (∀ k ∈ M'.foot, k ∈ M.foot ∨ w.heap.size ≤ k) := by
  have htx := h.txns
  have hvl : ∀ k, (M.vs k).length ≤ 500 := fun k => by have := ha.vs_le k; omega
  have hdl : ∀ m ∈ M.mks, m.dealt ≤ 1000 := fun m hm => by
    have h1 := ha.dealtle m hm
    have h2 := ha.closedle
    omega
  have mkE : ∀ (K : SM) (q : Nat) (e : SDo) (t : Tx), (K.endD n q e t).mks = K.mks := fun K q e t => by unfold SM.endD; split <;> rfl
  by_cases h0 : d.txn = 0
  · refine doerStep_free M w h n d hx g hg h0 _ ?_
    have eA : M.actsD d = decide (M.took ≠ M.last) := by unfold SM.actsD; rw [if_pos h0]
    by_cases hc : M.took = M.last
    · refine (take_no M w h _ hdl hc).mono ?_
      rintro e w' ⟨rfl, hb⟩
      have e1 : M.actsD d = false := by rw [eA]; simp [hc]
      exact ⟨⟨false, rfl⟩, M, by rw [e1], h.below hb, ha, KeptS.refl M, fun _ => rfl, fun q => (by rw [e1] at q; cases q), rfl, Chg.of_below hb _, fun k hk => Or.inl hk⟩
    · have e1 : M.actsD d = true := by rw [eA]; simp [hc]
      have hlt : M.took < M.last := by have := ha.takenle; omega
      have hrl : M.took < M.recs.length := by
        have h1 := ha.last_least
        have hm0 : 0 < M.mks.length := ha.mks1
        have h2 := (SM.le_least ha.mks1 M.least).1 (Nat.le_refl _) M.mks[0] (List.getElem_mem hm0)
        have h3 := ha.dealtle M.mks[0] (List.getElem_mem hm0)
        have h4 := ha.closedle
        omega
      have hr := List.getElem?_eq_getElem hrl
      have htl : M.took < M.txs.length := by rw [ha.txl]; exact hrl
      have ht := List.getElem?_eq_getElem htl
      have hen := ha.fresh _ _ hr (Nat.le_refl _)
      have hcn := (h.txn _ _ _ hr ht hen).1.cn
      refine (take_yes M w h n d hx g hg hdl hc M.took rfl _ _ hr ht hen hvl).mono ?_
      rintro e w' ⟨rfl, hS, hC⟩
      have hset : ({ M with took := M.took + 1, dos := M.dos.set n ⟨M.took + 1, Mac.begin M.recs[M.took].h⟩ } : SM).dos[n]? = some ⟨M.took + 1, Mac.begin M.recs[M.took].h⟩ := List.getElem?_set_self (lt_of_some hx)
      have hB := b_endD (b_take ha hx h0 hlt (Mac.begin M.recs[M.took].h)) hset ht hr hen rfl hcn
      have hK := kept_endD { M with took := M.took + 1, dos := M.dos.set n ⟨M.took + 1, Mac.begin M.recs[M.took].h⟩ } n M.took ⟨M.took + 1, Mac.begin M.recs[M.took].h⟩ M.txs[M.took] hset
      have hW := work_take hx h0 ht M.recs[M.took].h
      have hw2 := hK.work
      refine ⟨⟨true, rfl⟩, _, by rw [e1], hS, hB, ⟨hK.b, hK.txs, hK.ends, hK.recs, hK.mks, hK.dos.trans (by show (M.dos.set n _).length = _; simp), hK.dealt, by omega⟩, fun q => (by rw [e1] at q; cases q), fun _ => by omega, mkE _ _ _ _, hC, fun k hk => Or.inl (foot_endD2 hk rfl)⟩
  · obtain ⟨m, hm⟩ : ∃ m, d.txn = m + 1 := ⟨d.txn - 1, by omega⟩
    obtain ⟨r, t, hr, ht, hren, hh, hnx, hab⟩ := ha.doer n d m id hx hm
    have hcn := (h.txn _ _ _ hr ht hren).1.cn
    have hck := (h.txn _ _ _ hr ht hren).2.1
    have hsnd := checkN_ins hck hnx
    have hgt : M.txs.getD (d.txn - 1) Tx.nil = t := by rw [hm, Nat.add_sub_cancel, List.getD, ht]; rfl
    have hdm1 : ((d.txn - 1 : Nat) : Int) = (m : Int) := by omega
    have fin : ∀ (mac' : Mac), mac'.h = r.h → d.mac.next < mac'.next → M.actsD d = true → ∀ w', SAt w' (SM.endD { M with dos := M.dos.set n ⟨m + 1, mac'⟩ } n m ⟨m + 1, mac'⟩ t) → Chg w w' (fun k => k ∈ M.mut) →
        ∃ M', Ending.returned (.bool true) = .returned (.bool (M.actsD d)) ∧ SAt w' M' ∧ BRel M' G ∧ KeptS M M' ∧ (M.actsD d = false → M' = M) ∧ (M.actsD d = true → M'.work < M.work) ∧ M'.mks = M.mks ∧ Chg w w' (fun k => k ∈ M.mut) ∧ (∀ k ∈ M'.foot, k ∈ M.foot ∨ w.heap.size ≤ k) := by
      intro mac' hmh hmn e1 w' hS hC
      have hset : ({ M with dos := M.dos.set n ⟨m + 1, mac'⟩ } : SM).dos[n]? = some ⟨m + 1, mac'⟩ := List.getElem?_set_self (lt_of_some hx)
      have hB := b_endD (b_turn ha hx hm mac') hset ht hr hren hmh hcn
      have hK := kept_endD { M with dos := M.dos.set n ⟨m + 1, mac'⟩ } n m ⟨m + 1, mac'⟩ t hset
      have hW := work_turn hx hm ht hnx hmn
      have hw2 := hK.work
      exact ⟨_, by rw [e1], hS, hB, ⟨hK.b, hK.txs, hK.ends, hK.recs, hK.mks, hK.dos.trans (by show (M.dos.set n _).length = _; simp), hK.dealt, by omega⟩, fun q => (by rw [e1] at q; cases q), fun _ => by omega, mkE _ _ _ _, hC, fun k hk => Or.inl (foot_endD2 hk rfl)⟩
    refine doerStep_busy M w h n d hx g hg h0 _ ?_
    by_cases h67 : (t.c.getD d.mac.next Ins.zero).op = 6 ∨ (t.c.getD d.mac.next Ins.zero).op = 7
    · obtain ⟨_, _, _, _, _, hL, _, _⟩ := soundB_cases hsnd
      obtain ⟨hb0, hbl⟩ := hL h67
      have hmem : t.r.getD (t.c.getD d.mac.next Ins.zero).b.toNat 0 ∈ t.r := by
        rw [List.getD, List.getElem?_eq_getElem (by omega)]
        exact List.getElem_mem _
      obtain ⟨k0, k24⟩ := (checkN_sound _ hck).2.2.2.1 _ hmem
      obtain ⟨kn, hkn⟩ : ∃ kn : Nat, t.r.getD (t.c.getD d.mac.next Ins.zero).b.toNat 0 = (kn : Int) := ⟨_, (Int.toNat_of_nonneg k0).symm⟩
      have hk24 : kn < 24 := by omega
      have eA : M.actsD d = (behindV (M.vs kn) m (M.vs kn).length).2.2 := by
        unfold SM.actsD
        rw [if_neg h0, hgt, if_pos h67, hkn, Int.toNat_natCast, hdm1]
      refine (advance_look M w h n m d hx g hg hm r t hr ht hren hvl hh hnx h67 kn hkn hk24 (ha.sorted kn) (behindV (M.vs kn) m (M.vs kn).length).1 (behindV (M.vs kn) m (M.vs kn).length).2.1 (behindV (M.vs kn) m (M.vs kn).length).2.2 rfl _ rfl).mono ?_
      rintro e w' ⟨rfl, q1, q2⟩
      refine ⟨⟨_, rfl⟩, ?_⟩
      cases hw : (behindV (M.vs kn) m (M.vs kn).length).2.2 with
      | false =>
        have hb := q1 hw
        rw [hw] at eA
        exact ⟨M, by rw [eA], h.below hb, ha, KeptS.refl M, fun _ => rfl, fun q => (by rw [eA] at q; cases q), rfl, Chg.of_below hb _, fun k hk => Or.inl hk⟩
      | true =>
        obtain ⟨hS, hC⟩ := q2 hw
        rw [hw] at eA
        refine fin _ ?_ ?_ eA w' hS hC
        · exact hh
        · exact Nat.lt_succ_self _
    · have eA : M.actsD d = true := by
        unfold SM.actsD
        rw [if_neg h0, hgt, if_neg h67]
      refine (advance_do M w h n m d hx g hg hm r t hr ht hren hvl hh hnx h67 _ rfl).mono ?_
      rintro e w' ⟨rfl, hS, hC⟩
      refine ⟨⟨true, rfl⟩, ?_⟩
      refine fin _ (by show (mdo _ _).h = _; rw [mdo_h]; exact hh) ?_ eA w' hS hC
      have := mdo_next d.mac (t.c.getD d.mac.next Ins.zero)
      show d.mac.next < (mdo _ _).next + 1
      omega

end Go.Proofs.Ytlheloogmgmjnaa

namespace Go.Proofs.Ytlheloogmgmjnaa
open Go.RowKit

/-- What a worker's step tells and makes. -/
structure StepB (M M' : SM) (i : Int) (z : Bool) : Prop where
  kept : KeptS M M'
  maker : ∀ (n : Nat) (m : SMk), i = n → M.mks[n]? = some m → z = decide (m.dealt < M.closed) ∧ (m.dealt < M.closed → ∀ m', M'.mks[n]? = some m' → m'.dealt = m.dealt + 1) ∧ (¬ m.dealt < M.closed → M' = M)
  doer : ∀ (n : Nat) (d : SDo), i = (M.mks.length : Int) + n → M.dos[n]? = some d → z = M.actsD d ∧ (z = false → M' = M) ∧ (z = true → M'.work < M.work) ∧ M'.mks = M.mks
  off : i < 0 → z = false ∧ M' = M

theorem kept_maker (M : SM) {i : Nat} {m : SMk} (hi : M.mks[i]? = some m) (t : Tx) (vS : Nat → Option Sl) : KeptS M ((M.deal i (m.dealt + 1) m).mades i (m.dealt + 1) t.w t.w.length vS) :=
  ⟨rfl, rfl, rfl, rfl, by show (M.mks.set i _).length = _; simp, rfl, fun j a b h1 h2 => by
    have h2' : (M.mks.set i { m with dealt := m.dealt + 1 })[j]? = some b := h2
    by_cases e : j = i
    · subst e
      rw [List.getElem?_set_self (lt_of_some hi)] at h2'
      rw [hi] at h1
      rw [← Option.some.inj h2', ← Option.some.inj h1]
      show m.dealt ≤ m.dealt + 1
      omega
    · rw [List.getElem?_set_ne (fun q => e q.symm), h1] at h2'
      rw [Option.some.inj h2']; exact Nat.le_refl _, Nat.le_refl _⟩

theorem bStep_any (M : SM) (G : Nat → Nat) (ha : BRel M G) (w : World) (h : SAt w M) (i : Int) :
    Calls Try.prog 11 #[.pointer (some ⟨M.b, 0, none⟩), .int .i64 i] w fun e w' => ∃ (z : Bool) (M' : SM) (G' : Nat → Nat), e = .returned (.bool z) ∧ SAt w' M' ∧ BRel M' G' ∧ StepB M M' i z ∧ Chg w w' (fun k => k ∈ M.mut) ∧ (∀ k ∈ M'.foot, k ∈ M.foot ∨ w.heap.size ≤ k) := by
  have htx := h.txns
  have hvl : ∀ k, (M.vs k).length ≤ 500 := fun k => by have := ha.vs_le k; omega
  by_cases h1 : i < 0 ∨ (M.mks.length : Int) + M.dos.length < i
  · refine (pStep_off M w h i h1).mono ?_
    rintro e w' ⟨rfl, rfl⟩
    refine ⟨false, M, G, rfl, h, ha, ⟨KeptS.refl M, ?_, ?_, fun _ => ⟨rfl, rfl⟩⟩, Chg.refl _ _, fun k hk => Or.inl hk⟩
    · intro n m e hm
      have := lt_of_some hm
      omega
    · intro n d e hd
      have := lt_of_some hd
      omega
  · by_cases h2 : i < M.mks.length
    · obtain ⟨n, rfl⟩ : ∃ n : Nat, i = n := ⟨i.toNat, by omega⟩
      have hn : n < M.mks.length := by omega
      have hm := List.getElem?_eq_getElem hn
      refine pStep_maker M w h n hn _ ?_
      have nodoer : ∀ (q : Nat), (n : Int) = (M.mks.length : Int) + q → False := fun q e => by omega
      by_cases hz : (M.mks[n]).dealt < M.closed
      · have hrl : (M.mks[n]).dealt < M.recs.length := by have := ha.closedle; omega
        have hr := List.getElem?_eq_getElem hrl
        have htl : (M.mks[n]).dealt < M.txs.length := by rw [ha.txl]; exact hrl
        have ht := List.getElem?_eq_getElem htl
        have hen := ha.fresh _ _ hr (ha.took_dealt _ (List.getElem_mem hn))
        refine (makerStep_yes M w h n _ hm hz hrl _ _ hr ht hen hvl).mono ?_
        rintro e w' ⟨rfl, vS, hS, hC, hF⟩
        refine ⟨⟨true, rfl⟩, true, _, G, rfl, hS, b_maker ha hm hz ht vS, ⟨kept_maker M hm _ vS, ?_, fun q _ e _ => absurd e (fun e => nodoer q e), fun q => by omega⟩, hC, hF⟩
        intro q m e hq
        obtain rfl : n = q := by omega
        rw [hm] at hq
        obtain rfl := Option.some.inj hq
        refine ⟨(decide_eq_true hz).symm, fun _ m' hm' => ?_, fun q => absurd hz q⟩
        have hm2 : (M.mks.set n { M.mks[n] with dealt := (M.mks[n]).dealt + 1 })[n]? = some m' := hm'
        rw [List.getElem?_set_self hn] at hm2
        rw [← Option.some.inj hm2]
      · have hle := ha.dealtle _ (List.getElem_mem hn)
        refine (makerStep_no M w h n _ hm (by omega)).mono ?_
        rintro e w' ⟨rfl, hb⟩
        refine ⟨⟨false, rfl⟩, false, M, G, rfl, h.below hb, ha, ⟨KeptS.refl M, ?_, fun q _ e _ => absurd e (fun e => nodoer q e), fun _ => ⟨rfl, rfl⟩⟩, Chg.of_below hb _, fun k hk => Or.inl hk⟩
        intro q m e hq
        obtain rfl : n = q := by omega
        rw [hm] at hq
        obtain rfl := Option.some.inj hq
        exact ⟨(decide_eq_false hz).symm, fun q => absurd q hz, fun _ => rfl⟩
    · by_cases h3 : i = (M.mks.length : Int) + M.dos.length
      · subst h3
        refine pStep_collect M w h _ ?_
        refine (collector_any M w h hvl ha.sorted ha.vs_taken ha.taken500).mono ?_
        have nomaker : ∀ (q : Nat) (m : SMk), (M.mks.length : Int) + M.dos.length = q → M.mks[q]? = some m → False := fun q m e hq => by have := lt_of_some hq; omega
        have nodoer : ∀ (q : Nat) (d : SDo), (M.mks.length : Int) + M.dos.length = (M.mks.length : Int) + q → M.dos[q]? = some d → False := fun q d e hq => by have := lt_of_some hq; omega
        rintro e w' (⟨rfl, hb, _⟩ | ⟨key, u, s, txn, v, th, hk, hu1, hu, rfl, hS, hC, hs⟩)
        · exact ⟨0, rfl, false, M, G, rfl, h.below hb, ha, ⟨KeptS.refl M, fun q m e hq => (nomaker q m e hq).elim, fun q d e hq => (nodoer q d e hq).elim, fun q => by omega⟩, Chg.of_below hb _, fun k hk => Or.inl hk⟩
        · have hul := upToV_le (M.mark : Int) (M.vs key)
          refine ⟨u, rfl, true, _, _, by rw [decide_eq_true (show 0 < u by omega)], hS, b_collect ha hk (by omega) txn v th s, ⟨⟨rfl, rfl, rfl, rfl, rfl, rfl, fun j a b h1 h2 => ?_, Nat.le_refl _⟩, fun q m e hq => (nomaker q m e hq).elim, fun q d e hq => (nodoer q d e hq).elim, fun q => by omega⟩, hC, ?_⟩
          · have h2' : M.mks[j]? = some b := h2
            rw [h1] at h2'; rw [Option.some.inj h2']; exact Nat.le_refl _
          · intro k hkf
            refine Or.inl (SM.mem_foot.2 ?_)
            rcases SM.mem_foot.1 hkf with q | q
            · rcases SM.mem_mut.1 q with q | ⟨j, hj, q⟩
              · exact Or.inl (SM.mem_mut.2 (Or.inl q))
              · have q' : k ∈ ((if j = key then some s else M.vS j).getD Sl.nil).blk := q
                by_cases e : j = key
                · rw [if_pos e] at q'
                  exact Or.inl (SM.mem_mut.2 (Or.inr ⟨key, hk, hs k q'⟩))
                · rw [if_neg e] at q'
                  exact Or.inl (SM.mem_mut.2 (Or.inr ⟨j, hj, q'⟩))
            · exact Or.inr q
      · obtain ⟨d, hd⟩ : ∃ d : Nat, i = (M.mks.length : Int) + d := ⟨(i - M.mks.length).toNat, by omega⟩
        subst hd
        have hdl : d < M.dos.length := by omega
        have hx := List.getElem?_eq_getElem hdl
        obtain ⟨g, _, _, hg, _⟩ := h.doer hx
        refine pStep_doer M w h d hdl g hg _ ?_
        refine (bdoer_any M G ha w h d _ hx g hg).mono ?_
        rintro e w' ⟨M', rfl, hS, hB, hK, q1, q2, q3, hC, hF⟩
        refine ⟨⟨_, rfl⟩, _, M', G, rfl, hS, hB, ⟨hK, ?_, ?_, fun q => by omega⟩, hC, hF⟩
        · intro q m e hq
          have := lt_of_some hq
          omega
        · intro q y e hq
          obtain rfl : d = q := by omega
          rw [hx] at hq
          obtain rfl := Option.some.inj hq
          exact ⟨rfl, q1, q2, q3⟩

theorem sum_none {α : Type} (f : α → Nat) : ∀ l : List α, (∀ x ∈ l, f x = 0) → (l.map f).sum = 0
  | [], _ => rfl
  | x :: l, h => by rw [List.map_cons, List.sum_cons, h x (by simp), sum_none f l (fun y hy => h y (by simp [hy]))]
theorem le_sum {α : Type} (f : α → Nat) : ∀ (l : List α) (x : α), x ∈ l → f x ≤ (l.map f).sum
  | y :: l, x, h => by
    rw [List.map_cons, List.sum_cons]
    rcases List.mem_cons.1 h with rfl | h
    · omega
    · have := le_sum f l x h; omega

theorem behindV_known {l : List Ver} {n : Int} (h : ∀ x ∈ l, (x.txn : Int) ≤ n → x.st = 1 ∨ x.st = 2) : ∀ i, i ≤ l.length → (behindV l n i).2.2 = true
  | 0, _ => rfl
  | i + 1, hi => by
    have e : l.getD i Ver.zero = l[i] := by rw [List.getD, List.getElem?_eq_getElem (by omega)]; rfl
    have hm : l[i] ∈ l := List.getElem_mem (by omega)
    rw [behindV, e]
    split
    · exact behindV_known h i (by omega)
    · rename_i hn
      split
      · exact behindV_known h i (by omega)
      · rename_i h1
        rcases h l[i] hm (by omega) with q | q
        · exact absurd q h1
        · show (l[i].st == 2) = true
          rw [q]; rfl

/-- When all makers have dealt with all, and something is left, some doer's step does something. -/
theorem BRel.goes {M : SM} {G : Nat → Nat} (h : BRel M G) (hd : ∀ m ∈ M.mks, m.dealt = M.recs.length) (hcl : M.closed = M.recs.length) (hdo : 1 ≤ M.dos.length) (hw : 0 < M.work) : ∃ (n : Nat) (d : SDo), M.dos[n]? = some d ∧ M.actsD d = true := by
  have hlast : M.last = M.recs.length := by
    have hle : M.last ≤ M.recs.length := by
      have h1 := h.last_least
      have hm0 : 0 < M.mks.length := h.mks1
      have h2 := (SM.le_least h.mks1 M.least).1 (Nat.le_refl _) M.mks[0] (List.getElem_mem hm0)
      rw [hd _ (List.getElem_mem hm0)] at h2
      omega
    by_cases h0 : M.recs.length = 0
    · omega
    · have hlst : M.recs.length ≤ M.least := (SM.le_least h.mks1 _).2 (fun m hm => by rw [hd m hm]; exact Nat.le_refl _)
      have hne : 0 < M.ends.length := by
        rcases Nat.eq_zero_or_pos M.ends.length with q | q
        · exfalso
          rw [SM.closed_eq] at hcl
          have : M.ends = [] := by simpa using q
          rw [this] at hcl
          simp at hcl
          omega
        · exact q
      have hmem : M.recs.length ∈ M.ends := by
        rw [← hcl, SM.closed_eq, nat_get (by omega)]
        exact List.getElem_mem _
      have := (wholeB_mem h.rise M.least M.recs.length (by omega)).2 ⟨_, hmem, Nat.le_refl _, hlst⟩
      show lastOfN M.ends (wholeB M.ends M.least) = _
      have h2 : lastOfN M.ends (wholeB M.ends M.least) ≤ M.recs.length := hle
      omega
  by_cases hh : ∃ (n : Nat) (d : SDo), M.dos[n]? = some d ∧ d.txn ≠ 0
  · -- the least transaction that is in hand
    have hmin : ∀ b : Nat, (∃ (n : Nat) (d : SDo), M.dos[n]? = some d ∧ d.txn ≠ 0 ∧ d.txn ≤ b) → ∃ (n : Nat) (d : SDo), M.dos[n]? = some d ∧ d.txn ≠ 0 ∧ ∀ (j : Nat) (e : SDo), M.dos[j]? = some e → e.txn ≠ 0 → d.txn ≤ e.txn := by
      intro b
      induction b with
      | zero => rintro ⟨n, d, _, h1, h2⟩; omega
      | succ b ih =>
        rintro ⟨n, d, h0, h1, h2⟩
        by_cases q : ∃ (n : Nat) (d : SDo), M.dos[n]? = some d ∧ d.txn ≠ 0 ∧ d.txn ≤ b
        · exact ih q
        · refine ⟨n, d, h0, h1, fun j e he hne => ?_⟩
          by_cases z : d.txn ≤ e.txn
          · exact z
          · exact absurd ⟨j, e, he, hne, by omega⟩ q
    obtain ⟨n0, d0, h0, h1⟩ := hh
    obtain ⟨n, d, hx, hne, hleast⟩ := hmin d0.txn ⟨n0, d0, h0, h1, Nat.le_refl _⟩
    refine ⟨n, d, hx, ?_⟩
    obtain ⟨m, hm⟩ : ∃ m, d.txn = m + 1 := ⟨d.txn - 1, by omega⟩
    obtain ⟨r, t, hr, ht, hren, hh, hnx, hab⟩ := h.doer n d m id hx hm
    have hmt : m < M.took := by have := h.dle n d hx; omega
    unfold SM.actsD
    rw [if_neg hne]
    split
    · refine behindV_known (fun x hxm hxt => ?_) _ (Nat.le_refl _)
      obtain ⟨c1, _, c3, u, hu, _⟩ := h.vtxn _ x hxm
      have hil : x.txn - 1 < M.recs.length := by rw [← h.txl]; exact lt_of_some hu
      have hended : (M.recs[x.txn - 1]).ended = true := by
        cases hq : (M.recs[x.txn - 1]).ended with
        | true => rfl
        | false =>
          obtain ⟨j, e, he, het⟩ := h.undone _ _ (List.getElem?_eq_getElem hil) (by omega) hq
          have := hleast j e he (by omega)
          omega
      have := h.placed _ x hxm _ (List.getElem?_eq_getElem hil) hended
      omega
    · rfl
  · have hd0 : 0 < M.dos.length := hdo
    have hx := List.getElem?_eq_getElem hd0
    have hfree : ∀ d ∈ M.dos, d.txn = 0 := by
      intro d hdm
      obtain ⟨n, hn⟩ := List.getElem?_of_mem hdm
      cases hq : d.txn with
      | zero => rfl
      | succ q => exact absurd ⟨n, d, hn, by omega⟩ hh
    have hz : (M.dos.map (SM.dwork M.txs)).sum = 0 := sum_none _ _ (fun d hdm => by unfold SM.dwork; rw [if_pos (hfree d hdm)])
    have htk : M.took < M.recs.length := by
      by_cases q : M.took < M.recs.length
      · exact q
      · unfold SM.work at hw
        rw [hz, List.drop_eq_nil_of_le (by rw [h.txl]; omega)] at hw
        simp at hw
    refine ⟨0, _, hx, ?_⟩
    unfold SM.actsD
    rw [if_pos (hfree _ (List.getElem_mem hd0)), hlast]
    simp; omega

/-- When nothing is left, all have ended, and no doer does anything. -/
theorem BRel.rests {M : SM} {G : Nat → Nat} (h : BRel M G) (hw : M.work = 0) : M.took = M.recs.length ∧ (∀ d ∈ M.dos, d.txn = 0) ∧ (∀ r ∈ M.recs, r.ended = true) := by
  have hsum : ((M.txs.drop M.took).map fun t => 1 + t.c.length).sum = 0 ∧ (M.dos.map (SM.dwork M.txs)).sum = 0 := by unfold SM.work at hw; omega
  have htl : M.took ≤ M.recs.length := by
    have h1 := h.took_dealtOf 0
    have h2 := h.dealtOf_le 0
    omega
  have htk : M.took = M.recs.length := by
    by_cases q : M.took < M.txs.length
    · exfalso
      have := hsum.1
      rw [List.drop_eq_getElem_cons q, List.map_cons, List.sum_cons] at this
      omega
    · rw [h.txl] at q; omega
  have hfree : ∀ d ∈ M.dos, d.txn = 0 := by
    intro d hdm
    obtain ⟨n, hn⟩ := List.getElem?_of_mem hdm
    cases hq : d.txn with
    | zero => rfl
    | succ m =>
      exfalso
      obtain ⟨r, t, _, ht, _, _, hnx, _⟩ := h.doer n d m id hn hq
      have h1 : SM.dwork M.txs d = t.c.length - d.mac.next := by
        unfold SM.dwork
        rw [if_neg (by omega), hq, Nat.add_sub_cancel, List.getD, ht]; rfl
      have h3 := le_sum (SM.dwork M.txs) M.dos d hdm
      omega
  refine ⟨htk, hfree, ?_⟩
  intro r hr
  obtain ⟨m, hm⟩ := List.getElem?_of_mem hr
  cases hq : r.ended with
  | true => rfl
  | false =>
    obtain ⟨n, d, hd, hdt⟩ := h.undone m r hm (by rw [htk]; exact lt_of_some hm) hq
    have := hfree d (List.mem_of_getElem? hd)
    omega

end Go.Proofs.Ytlheloogmgmjnaa
