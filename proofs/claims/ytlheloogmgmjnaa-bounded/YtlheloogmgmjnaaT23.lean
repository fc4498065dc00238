import Derived.Test.YtlheloogmgmjnaaT20
import Derived.Test.YtlheloogmgmjnaaT09
import Derived.Test.YtlheloogmgmjnaaT13
import Derived.Test.YtlheloogmgmjnaaT21
import Derived.Test.YtlheloogmgmjnaaT02
import Derived.Test.YtlheloogmgmjnaaT19
namespace Go.Proofs.Ytlheloogmgmjnaa
open Go.RowKit

structure SDo where
  txn : Nat
  mac : Mac
def SDo.row (d : SDo) : List Value := .int .i64 d.txn :: d.mac.row

structure SM where
  b : Nat
  room : Nat
  taken : Nat
  took : Nat
  recs : List PRec
  rcS : Sl
  txs : List Tx
  ends : List Nat
  enS : Sl
  mks : List SMk
  mkS : Sl
  dos : List SDo
  doS : Sl
  vs : Nat → List Ver
  vS : Nat → Option Sl

def SM.row (M : SM) : List Value := [.int .i64 M.room, .int .i64 M.taken, .slice M.rcS.a M.rcS.n M.rcS.c, .slice M.enS.a M.enS.n M.enS.c, .slice M.mkS.a M.mkS.n M.mkS.c, .slice M.doS.a M.doS.n M.doS.c, .int .i64 M.took]
/-- The map of the i-th maker. -/
def SM.mapOf (M : SM) (i : Nat) : Nat → Option Sl := fun k => if k % M.mks.length = i then M.vS k else none
def SM.vsl (M : SM) (k : Nat) : Sl := (M.vS k).getD Sl.nil
def SM.vblks (M : SM) : List Nat := (List.range 24).flatMap fun k => (M.vsl k).blk
def SM.base (M : SM) : List Nat := M.b :: (M.rcS.blk ++ (M.enS.blk ++ (M.mkS.blk ++ (M.doS.blk ++ M.mks.map (·.g)))))
def SM.mut (M : SM) : List Nat := M.base ++ M.vblks
def SM.closed (M : SM) : Nat := lastOfN M.ends M.ends.length
/-- All blocks of the store that are asked of. -/
def SM.foot (M : SM) : List Nat := M.mut ++ M.recs.flatMap fun r => if r.ended then [] else r.h.blks

structure SAt (w : World) (M : SM) : Prop where
  row : RowAt w M.b 64 M.row
  rc : Own w 102 6 M.rcS (M.recs.flatMap PRec.row)
  rcn : M.rcS.n = M.recs.length
  en : Own w 3 1 M.enS (ints (nats M.ends))
  enn : M.enS.n = M.ends.length
  mO : Own w 90 2 M.mkS (M.mks.flatMap SMk.row)
  mkn : M.mkS.n = M.mks.length
  mk1 : 1 ≤ M.mks.length
  mk8 : M.mks.length ≤ 8
  dO : Own w 76 30 M.doS (M.dos.flatMap SDo.row)
  don : M.doS.n = M.dos.length
  do1 : 1 ≤ M.dos.length
  do6 : M.dos.length ≤ 6
  dr : ∀ d ∈ M.dos, d.mac.regs.length = 6 ∧ d.mac.says.length = 6
  maps : ∀ (i : Nat) (m : SMk), M.mks[i]? = some m → IMapAt w m.g (M.mapOf i)
  vers : ∀ k, k < 24 → VerAt w (M.vsl k) (M.vs k)
  keys : ∀ k s, M.vS k = some s → k < 24
  nodup : M.base.Nodup
  vbase : ∀ k, k < 24 → ∀ x ∈ (M.vsl k).blk, x ∉ M.base
  vapart : ∀ k k', k < 24 → k' < 24 → k ≠ k' → ∀ x ∈ (M.vsl k).blk, x ∉ (M.vsl k').blk
  txn : ∀ (i : Nat) (r : PRec) (t : Tx), M.recs[i]? = some r → M.txs[i]? = some t → r.ended = false → OwnTx w r.h t ∧ checkN t = 0 ∧ ∀ k ∈ r.h.blks, k ∉ M.mut
  txl : M.txs.length = M.recs.length
  txns : M.recs.length ≤ 150
  ends1 : M.ends.length ≤ M.recs.length

theorem OwnTx.chg {w w' : World} {D : Nat → Prop} {h : TH} {t : Tx} (o : OwnTx w h t) (hc : Chg w w' D) (hd : ∀ k ∈ h.blks, ¬ D k) : OwnTx w' h t :=
  ⟨o.rO.chg hc (fun k hk => hd k (by simp [TH.blks, hk])), o.wO.chg hc (fun k hk => hd k (by simp [TH.blks, hk])), o.cO.chg hc (fun k hk => hd k (by simp [TH.blks, hk])), o.rn, o.wn, o.cn⟩
theorem OwnTx.blk_lt {w : World} {h : TH} {t : Tx} (o : OwnTx w h t) : ∀ k ∈ h.blks, k < w.heap.size := by
  intro k hk
  simp only [TH.blks, List.mem_append] at hk
  rcases hk with hk | hk | hk
  · exact o.rO.blk_lt k hk
  · exact o.wO.blk_lt k hk
  · exact o.cO.blk_lt k hk
theorem OwnTx.tx {w : World} {h : TH} {t : Tx} (o : OwnTx w h t) (hk : checkN t = 0) : TxAt w h t := by
  obtain ⟨h1, h2, h3, _⟩ := checkN_sound t hk
  exact ⟨o.rn, o.wn, o.cn, o.rO.cap, o.wO.cap, o.cO.cap, by rw [o.rn]; omega, by rw [o.wn]; omega, by rw [o.cn]; omega, o.rO.ints, o.wO.ints, o.cO.instrs⟩

theorem SAt.inAt {w : World} {M : SM} (h : SAt w M) : InAt w M.b M.recs M.rcS M.ends M.enS :=
  ⟨h.row.cell' (i := 2) rfl, h.row.cell' (i := 3) rfl, h.rc, h.rcn, h.en, h.enn, h.txns, h.ends1⟩
theorem SAt.mkAt {w : World} {M : SM} (h : SAt w M) : MkAt w M.b M.mks M.mkS := ⟨h.row.cell' (i := 4) rfl, h.mO, h.mkn, h.mk1, h.mk8⟩

/-- Nothing of the store has turned. -/
theorem SAt.chg {w w' : World} {D : Nat → Prop} {M : SM} (h : SAt w M) (hc : Chg w w' D) (hd : ∀ k ∈ M.mut, ¬ D k) (ht : ∀ r ∈ M.recs, r.ended = false → ∀ k ∈ r.h.blks, ¬ D k) : SAt w' M :=
  { h with
    row := h.row.chg hc (hd _ (by simp [SM.mut, SM.base]))
    rc := h.rc.chg hc (fun k hk => hd k (by simp [SM.mut, SM.base, hk]))
    en := h.en.chg hc (fun k hk => hd k (by simp [SM.mut, SM.base, hk]))
    mO := h.mO.chg hc (fun k hk => hd k (by simp [SM.mut, SM.base, hk]))
    dO := h.dO.chg hc (fun k hk => hd k (by simp [SM.mut, SM.base, hk]))
    maps := fun i m hm => (h.maps i m hm).chg hc (hd _ (by
      have : m.g ∈ M.mks.map (·.g) := List.mem_map.2 ⟨m, List.mem_of_getElem? hm, rfl⟩
      simp only [SM.mut, SM.base, List.mem_cons, List.mem_append]
      exact Or.inl (Or.inr (Or.inr (Or.inr (Or.inr (Or.inr this)))))))
    vers := fun k hk => (h.vers k hk).chg hc (fun j hj => hd j (by
      have : j ∈ M.vblks := List.mem_flatMap.2 ⟨k, List.mem_range.2 hk, hj⟩
      exact List.mem_append.2 (Or.inr this)))
    txn := fun i r t hr htx he => by
      obtain ⟨h1, h2, h3⟩ := h.txn i r t hr htx he
      exact ⟨h1.chg hc (ht r (List.mem_of_getElem? hr) he), h2, h3⟩ }
theorem SAt.below {w w' : World} {M : SM} (h : SAt w M) (hb : Below w.heap.size w w') : SAt w' M := h.chg (Chg.of_below hb (fun _ => False)) (fun _ _ => id) (fun _ _ _ _ _ => id)

theorem SAt.base_lt {w : World} {M : SM} (h : SAt w M) : ∀ k ∈ M.base, k < w.heap.size := by
  intro k hk
  simp only [SM.base, List.mem_cons, List.mem_append] at hk
  rcases hk with hk | hk | hk | hk | hk | hk
  · rw [hk]; exact h.row.lt
  · exact h.rc.blk_lt k hk
  · exact h.en.blk_lt k hk
  · exact h.mO.blk_lt k hk
  · exact h.dO.blk_lt k hk
  · obtain ⟨m, hm, rfl⟩ := List.mem_map.1 hk
    obtain ⟨i, hi⟩ := List.getElem?_of_mem hm
    exact (h.maps i m hi).lt
theorem SAt.ver_lt {w : World} {M : SM} (h : SAt w M) {k : Nat} (hk : k < 24) : ∀ x ∈ (M.vsl k).blk, x < w.heap.size := (h.vers k hk).own.blk_lt
theorem SM.mem_mut {M : SM} {x : Nat} : x ∈ M.mut ↔ x ∈ M.base ∨ ∃ k, k < 24 ∧ x ∈ (M.vsl k).blk := by
  simp only [SM.mut, List.mem_append, SM.vblks, List.mem_flatMap, List.mem_range]
theorem SM.mem_foot {M : SM} {k : Nat} : k ∈ M.foot ↔ k ∈ M.mut ∨ ∃ r ∈ M.recs, r.ended = false ∧ k ∈ r.h.blks := by
  simp only [SM.foot, List.mem_append, List.mem_flatMap]
  constructor
  · rintro (h | ⟨r, hr, h⟩)
    · exact Or.inl h
    · by_cases he : r.ended = true
      · rw [if_pos he] at h; simp at h
      · rw [if_neg he] at h; exact Or.inr ⟨r, hr, by simpa using he, h⟩
  · rintro (h | ⟨r, hr, he, h⟩)
    · exact Or.inl h
    · exact Or.inr ⟨r, hr, by rw [if_neg (by simp [he])]; exact h⟩
theorem SAt.mut_lt {w : World} {M : SM} (h : SAt w M) : ∀ k ∈ M.mut, k < w.heap.size := by
  intro k hk
  rcases SM.mem_mut.1 hk with h1 | ⟨j, hj, h1⟩
  · exact h.base_lt k h1
  · exact h.ver_lt hj k h1

/-- A version is made. -/
def SM.make (M : SM) (key txn : Nat) (s : Sl) : SM :=
  { M with vs := fun k => if k = key then M.vs k ++ [⟨txn, 0, 0, false⟩] else M.vs k, vS := fun k => if k = key then some s else M.vS k }

theorem SM.make_vsl (M : SM) (key txn : Nat) (s : Sl) (k : Nat) : (M.make key txn s).vsl k = if k = key then s else M.vsl k := by
  unfold SM.vsl SM.make
  by_cases h : k = key <;> simp [h]

theorem sAt_make {w w' : World} {M : SM} (h : SAt w M) {i key txn : Nat} {m : SMk} {s : Sl} (hi : M.mks[i]? = some m) (hk : key < 24) (hki : key % M.mks.length = i)
    (h1 : IMapAt w' m.g (fun j => if j = key then some s else M.mapOf i j)) (h2 : VerAt w' s (M.vs key ++ [⟨txn, 0, 0, false⟩])) (h3 : ∀ k ∈ s.blk, k ∈ (M.vsl key).blk ∨ w.heap.size ≤ k)
    (hc : Chg w w' (fun k => k = m.g ∨ k ∈ (M.vsl key).blk)) : SAt w' (M.make key txn s) := by
  have hgm : m.g ∈ M.base := by
    have : m.g ∈ M.mks.map (·.g) := List.mem_map.2 ⟨m, List.mem_of_getElem? hi, rfl⟩
    simp only [SM.base, List.mem_cons, List.mem_append]
    exact Or.inr (Or.inr (Or.inr (Or.inr (Or.inr this))))
  have hnd := h.nodup
  have hng : ∀ k ∈ M.b :: (M.rcS.blk ++ (M.enS.blk ++ (M.mkS.blk ++ M.doS.blk))), ¬ (k = m.g ∨ k ∈ (M.vsl key).blk) := by
    intro k hk1 hk2
    have hkb : k ∈ M.base := by
      simp only [SM.base, List.mem_cons, List.mem_append] at hk1 ⊢
      rcases hk1 with h | h | h | h | h
      · exact Or.inl h
      · exact Or.inr (Or.inl h)
      · exact Or.inr (Or.inr (Or.inl h))
      · exact Or.inr (Or.inr (Or.inr (Or.inl h)))
      · exact Or.inr (Or.inr (Or.inr (Or.inr (Or.inl h))))
    rcases hk2 with rfl | hk2
    · have hb : M.base = (M.b :: (M.rcS.blk ++ (M.enS.blk ++ (M.mkS.blk ++ M.doS.blk)))) ++ M.mks.map (·.g) := by simp [SM.base]
      rw [hb] at hnd
      exact (List.nodup_append.1 hnd).2.2 _ hk1 _ (List.mem_map.2 ⟨m, List.mem_of_getElem? hi, rfl⟩) rfl
    · exact h.vbase key hk k hk2 hkb
  have hother : ∀ j n, M.mks[j]? = some n → j ≠ i → n.g ≠ m.g := by
    intro j n hj hne e
    have hb : M.base = (M.b :: (M.rcS.blk ++ (M.enS.blk ++ (M.mkS.blk ++ M.doS.blk)))) ++ M.mks.map (·.g) := by simp [SM.base]
    rw [hb] at hnd
    have hn2 := (List.nodup_append.1 hnd).2.1
    have a1 : (M.mks.map (·.g))[j]? = some m.g := by rw [List.getElem?_map, hj]; simp [e]
    have a2 : (M.mks.map (·.g))[i]? = some m.g := by rw [List.getElem?_map, hi]; rfl
    have hjl : j < (M.mks.map (·.g)).length := by
      by_cases hb : j < (M.mks.map (·.g)).length
      · exact hb
      · rw [List.getElem?_eq_none (by omega)] at a1; cases a1
    exact hne ((List.getElem?_inj hjl hn2).1 (a1.trans a2.symm))
  refine
    { h with
      row := h.row.chg hc (hng _ (by simp))
      rc := h.rc.chg hc (fun k hk => hng k (by simp [hk]))
      en := h.en.chg hc (fun k hk => hng k (by simp [hk]))
      mO := h.mO.chg hc (fun k hk => hng k (by simp [hk]))
      dO := h.dO.chg hc (fun k hk => hng k (by simp [hk]))
      maps := ?_
      vers := ?_
      keys := ?_
      vbase := ?_
      vapart := ?_
      txn := ?_ }
  · intro j n hj
    by_cases e : j = i
    · subst e
      have hj' : M.mks[j]? = some n := hj
      rw [hi] at hj'
      obtain rfl := Option.some.inj hj'
      have : (M.make key txn s).mapOf j = fun q => if q = key then some s else M.mapOf j q := by
        funext q
        unfold SM.mapOf SM.make
        by_cases hq : q = key
        · subst hq; simp [hki]
        · simp [hq]
      rw [this]; exact h1
    · have : (M.make key txn s).mapOf j = M.mapOf j := by
        funext q
        unfold SM.mapOf SM.make
        by_cases hq : q = key
        · subst hq; simp only [hki]; rw [if_neg (fun x => e x.symm), if_neg (fun x => e x.symm)]
        · simp [hq]
      rw [this]
      refine (h.maps j n hj).chg hc ?_
      rintro (hx | hx)
      · exact hother j n hj e hx
      · refine h.vbase key hk _ hx ?_
        have : n.g ∈ M.mks.map (·.g) := List.mem_map.2 ⟨n, List.mem_of_getElem? hj, rfl⟩
        simp only [SM.base, List.mem_cons, List.mem_append]
        exact Or.inr (Or.inr (Or.inr (Or.inr (Or.inr this))))
  · intro k hkk
    rw [SM.make_vsl]
    by_cases e : k = key
    · subst e; simp only [if_true, SM.make]; exact h2
    · simp only [e, if_false, SM.make]
      refine (h.vers k hkk).chg hc ?_
      rintro x hx (hg | hg)
      · exact h.vbase k hkk x hx (hg ▸ hgm)
      · exact h.vapart k key hkk hk e x hx hg
  · intro k q hq
    simp only [SM.make] at hq
    by_cases e : k = key
    · omega
    · rw [if_neg e] at hq; exact h.keys k q hq
  · intro k hkk x hx
    rw [SM.make_vsl] at hx
    show x ∉ M.base
    by_cases e : k = key
    · rw [if_pos e] at hx
      rcases h3 x hx with h4 | h4
      · exact h.vbase key hk x h4
      · intro hb; have := h.base_lt x hb; omega
    · rw [if_neg e] at hx; exact h.vbase k hkk x hx
  · intro k k' hkk hkk' hne x hx hx'
    rw [SM.make_vsl] at hx hx'
    by_cases e : k = key
    · rw [if_pos e] at hx
      rw [if_neg (fun q => hne (e.trans q.symm))] at hx'
      rcases h3 x hx with h4 | h4
      · exact h.vapart key k' hk hkk' (fun q => hne (e.trans q)) x h4 hx'
      · have := h.ver_lt hkk' x hx'; omega
    · rw [if_neg e] at hx
      by_cases e' : k' = key
      · rw [if_pos e'] at hx'
        rcases h3 x hx' with h4 | h4
        · exact h.vapart k key hkk hk e x hx h4
        · have := h.ver_lt hkk x hx; omega
      · rw [if_neg e'] at hx'
        exact h.vapart k k' hkk hkk' hne x hx hx'
  · intro j r t hr ht he
    obtain ⟨a1, a2, a3⟩ := h.txn j r t hr ht he
    refine ⟨a1.chg hc ?_, a2, ?_⟩
    · rintro x hx (hg | hg)
      · exact a3 x hx (SM.mem_mut.2 (Or.inl (hg ▸ hgm)))
      · exact a3 x hx (SM.mem_mut.2 (Or.inr ⟨key, hk, hg⟩))
    · intro x hx hm
      rcases SM.mem_mut.1 hm with hb | ⟨k, hkk, hb⟩
      · exact a3 x hx (SM.mem_mut.2 (Or.inl hb))
      · rw [SM.make_vsl] at hb
        by_cases e : k = key
        · rw [if_pos e] at hb
          rcases h3 x hb with h4 | h4
          · exact a3 x hx (SM.mem_mut.2 (Or.inr ⟨key, hk, h4⟩))
          · have := a1.blk_lt x hx; omega
        · rw [if_neg e] at hb
          exact a3 x hx (SM.mem_mut.2 (Or.inr ⟨k, hkk, hb⟩))

/-- What is owned, seen from some of its cells; and back. -/
theorem Own.mid {w : World} {e : TypeId} {sz : Nat} {s : Sl} {p r q : List Value} (h : Own w e sz s (p ++ (r ++ q))) (hr : 0 < r.length) : ∃ g suf, s.a = some ⟨g, 0, none⟩ ∧ RowAt w g e (p ++ (r ++ suf)) ∧
    ∀ (w' : World) (r' : List Value), r'.length = r.length → RowAt w' g e (p ++ (r' ++ suf)) → Own w' e sz s (p ++ (r' ++ q)) := by
  obtain ⟨hl, h | ⟨g, cap, cur, hv, hb, hh, hn, hm, hs, ht⟩⟩ := h
  · obtain ⟨_, h0⟩ := h
    rw [h0] at hl
    simp at hl
    rw [hl.2.1] at hr
    simp at hr
  · simp at hv
    obtain ⟨h1, h2⟩ := hv
    subst h2
    have hlen : (p ++ (r ++ q)).length = s.n * sz := hl
    refine ⟨g, q ++ cur.toList.drop (s.n * sz), h1, ?_, ?_⟩
    · have ec : p ++ (r ++ (q ++ cur.toList.drop (s.n * sz))) = cur.toList := by
        rw [← List.append_assoc r, ← List.append_assoc p, ← ht, List.take_append_drop]
      rw [ec]
      simpa [RowAt] using hh
    · intro w' r' hl' hw'
      refine ⟨by simp at hlen ⊢; omega, Or.inr ⟨g, s.c, (p ++ (r' ++ (q ++ cur.toList.drop (s.n * sz)))).toArray, by rw [h1], hb, hw', hn, hm, ?_, ?_⟩⟩
      · have : (cur.toList.drop (s.n * sz)).length = s.c * sz - s.n * sz := by simp [hs]
        have hle : s.n * sz ≤ s.c * sz := Nat.mul_le_mul_right _ hn
        simp at hlen this ⊢
        omega
      · rw [List.toList_toArray, ← List.append_assoc r', ← List.append_assoc p, List.take_append_of_le_length (by simp at hlen ⊢; omega), List.take_of_length_le (by simp at hlen ⊢; omega)]

end Go.Proofs.Ytlheloogmgmjnaa

namespace Go.Proofs.Ytlheloogmgmjnaa
open Go.RowKit

set_option maxHeartbeats 4000000 in
set_option maxRecDepth 100000 in
theorem advance1_any {b : Nat} {mks : List SMk} {mkS : Sl} (w : World) (h : MkAt w b mks mkS) (key txn gd od : Nat) (hk : key < 24) (ht : 1 ≤ txn) (ht2 : txn ≤ 1000) (m : SMk) (hm : mks[key % mks.length]? = some m) (f : Nat → Option Sl) (hf : IMapAt w m.g f) (l : List Ver) (hl : VerAt w ((f key).getD Sl.nil) l) (hll : l.length ≤ 1000) (hs : VSorted l)
    (b0 o0 b1 o1 b2 o2 : Nat) (c0 : w.cell? ⟨b0, o0, none⟩ = some (.pointer (some ⟨b, 0, none⟩))) (c1 : w.cell? ⟨b1, o1, none⟩ = some (.pointer (some ⟨gd, od, none⟩))) (c2 : w.cell? ⟨b2, o2, none⟩ = some (.func (.func 55) #[] #[])) (c3 : w.cell? ⟨gd, od, none⟩ = some (.int .i64 txn)) :
    Calls Try.prog 72 #[.int .i64 key, .pointer (some ⟨b0, o0, none⟩), .pointer (some ⟨b1, o1, none⟩), .pointer (some ⟨b2, o2, none⟩)] w fun e w' =>
      e = .returned (.tuple #[.agg #[.int .i64 (behindV l ((txn : Int) - 1) l.length).1, .bool (behindV l ((txn : Int) - 1) l.length).2.1], .bool (behindV l ((txn : Int) - 1) l.length).2.2]) ∧ Below w.heap.size w w' := by
  have B0 := hide (below_alloc1 w (.cells #[.int .i64 0, .bool false] 69))
  have R0 := hide (rowAt_alloc w [.int .i64 0, .bool false] 69)
  have VO := hide (fun wx (hb : Below w.heap.size w wx) => versionsOf_gen wx (h.below hb) key hk m hm)
  have BE := hide (fun wx (hb : Below w.heap.size w wx) => vBehind_any m.g f key ((txn : Int) - 1) l wx (hf.below hb) (hl.below hb) hll hs)
  have hws : IntKind.i64.wrap ((txn : Int) - 1) = (txn : Int) - 1 := by rw [IntKind.wrap_i64]; omega
  have KW : Hid (∀ w', Below w.heap.size w w' → (w'.cell? ⟨b0, o0, none⟩ = some (.pointer (some ⟨b, 0, none⟩)) ∧ w'.cell? ⟨b1, o1, none⟩ = some (.pointer (some ⟨gd, od, none⟩)) ∧ w'.cell? ⟨b2, o2, none⟩ = some (.func (.func 55) #[] #[]) ∧ w'.cell? ⟨gd, od, none⟩ = some (.int .i64 txn))) := hide (fun w' hb => ⟨cell_on c0 hb, cell_on c1 hb, cell_on c2 hb, cell_on c3 hb⟩)
  clear h hf hl c0 c1 c2 c3
  generalize behindV l ((txn : Int) - 1) l.length = res at *
  obtain ⟨rv, rth, rk⟩ := res
  simp only at BE ⊢
  go_enter Try.func72, Try.ntmps72
  go_wp2_with fail
  change Hid (RowAt (w.alloc (.cells #[.int .i64 0, .bool false] 69)) w.heap.size 69 [.int .i64 0, .bool false]) at R0
  have hlt := R0.out.lt
  generalize hw1 : w.alloc (.cells #[.int .i64 0, .bool false] 69) = W at *
  clear hw1
  refine wp_region_held_drew (S := (fun w' => w'.cell? ⟨b0, o0, none⟩ = some (.pointer (some ⟨b, 0, none⟩)) ∧ w'.cell? ⟨b1, o1, none⟩ = some (.pointer (some ⟨gd, od, none⟩)) ∧ w'.cell? ⟨b2, o2, none⟩ = some (.func (.func 55) #[] #[]) ∧ w'.cell? ⟨gd, od, none⟩ = some (.int .i64 txn))) (by kernel_rfl) (KW.out _ B0.out.drew) (fun hHeld => ?_)
  have D0 : Hid (Below W.heap.size W W.drew) := hide (Below.refl _ _).drew
  refine wpAnyH_take (i := 0) (v := ?_) rfl (by kernel_rfl) (by kernel_rfl) (by kernel_rfl) (fun _ _ _ h => h) (Or.inl ⟨by rfl, ?_⟩) (by assumption) ?_
  rotate_left
  · intro w hSw; (try dsimp only at hSw); (go_simp <;> with_reducible rfl)
  try simp only [List.getElem_toArray, List.getElem_cons_zero, Act.put, List.setIfInBounds_toArray, List.set_cons_zero, List.set_cons_succ]
  refine wpAnyH_take (i := 1) (v := ?_) rfl (by kernel_rfl) (by kernel_rfl) (by kernel_rfl) (fun _ _ _ h => h) (Or.inl ⟨by rfl, ?_⟩) (by assumption) ?_
  rotate_left
  · intro w hSw; (try dsimp only at hSw); (go_simp <;> with_reducible rfl)
  try simp only [List.getElem_toArray, List.getElem_cons_zero, List.getElem_cons_succ, Act.put, List.setIfInBounds_toArray, List.set_cons_zero, List.set_cons_succ]
  refine wpAnyH_take (i := 3) (v := ?_) rfl (by kernel_rfl) (by kernel_rfl) (by kernel_rfl) (fun _ _ _ h => h) (Or.inl ⟨by rfl, ?_⟩) (by assumption) ?_
  rotate_left
  · intro w hSw; (try dsimp only at hSw); (go_simp <;> with_reducible rfl)
  try simp only [List.getElem_toArray, List.getElem_cons_zero, List.getElem_cons_succ, Act.put, List.setIfInBounds_toArray, List.set_cons_zero, List.set_cons_succ]
  refine wpAnyH_take (i := 4) (v := ?_) rfl (by kernel_rfl) (by kernel_rfl) (by kernel_rfl) (fun _ _ _ h => h) (Or.inl ⟨by rfl, ?_⟩) (by assumption) ?_
  rotate_left
  · intro w hSw; (try dsimp only at hSw); (go_simp <;> with_reducible rfl)
  try simp only [List.getElem_toArray, List.getElem_cons_zero, List.getElem_cons_succ, Act.put, List.setIfInBounds_toArray, List.set_cons_zero, List.set_cons_succ]
  refine wpAnyH_take (i := 5) (v := ?_) rfl (by kernel_rfl) (by kernel_rfl) (by kernel_rfl) (fun _ _ _ h => h) (Or.inl ⟨by rfl, ?_⟩) (by assumption) ?_
  rotate_left
  · intro w hSw; (try dsimp only at hSw); (go_simp <;> with_reducible rfl)
  try simp only [List.getElem_toArray, List.getElem_cons_zero, List.getElem_cons_succ, Act.put, List.setIfInBounds_toArray, List.set_cons_zero, List.set_cons_succ]
  refine wpAnyH_take (i := 6) (v := ?_) rfl (by kernel_rfl) (by kernel_rfl) (by kernel_rfl) (fun _ _ _ h => h) (Or.inl ⟨by rfl, ?_⟩) (by assumption) ?_
  rotate_left
  · intro w hSw; (try dsimp only at hSw); (go_simp <;> with_reducible rfl)
  try simp only [List.getElem_toArray, List.getElem_cons_zero, List.getElem_cons_succ, Act.put, List.setIfInBounds_toArray, List.set_cons_zero, List.set_cons_succ]
  refine wpAnyH_take (i := 7) (v := ?_) rfl (by kernel_rfl) (by kernel_rfl) (by kernel_rfl) (fun _ _ _ h => h) (Or.inl ⟨by rfl, ?_⟩) (by assumption) ?_
  rotate_left
  · intro w hSw; (try dsimp only at hSw); (go_simp <;> with_reducible rfl)
  try simp only [List.getElem_toArray, List.getElem_cons_zero, List.getElem_cons_succ, Act.put, List.setIfInBounds_toArray, List.set_cons_zero, List.set_cons_succ]
  refine wpAnyH_take (i := 8) (v := ?_) rfl (by kernel_rfl) (by kernel_rfl) (by kernel_rfl) (fun _ _ _ h => h) (Or.inl ⟨by rfl, ?_⟩) (by assumption) ?_
  rotate_left
  · intro w hSw; (try dsimp only at hSw); (go_simp <;> with_reducible rfl)
  try simp only [List.getElem_toArray, List.getElem_cons_zero, List.getElem_cons_succ, Act.put, List.setIfInBounds_toArray, List.set_cons_zero, List.set_cons_succ]
  refine wpAnyH_take (i := 9) (v := ?_) rfl (by kernel_rfl) (by kernel_rfl) (by kernel_rfl) (fun _ _ _ h => h) (Or.inl ⟨by rfl, ?_⟩) (by assumption) ?_
  rotate_left
  · intro w hSw; (try dsimp only at hSw); (go_simp <;> with_reducible rfl)
  try simp only [List.getElem_toArray, List.getElem_cons_zero, List.getElem_cons_succ, Act.put, List.setIfInBounds_toArray, List.set_cons_zero, List.set_cons_succ]
  refine wpAnyH_ready (rs := [2]) (by kernel_rfl) (by simp) ?_
  refine AllReadyH.cons rfl (fun K hK => ?_) AllReadyH.nil
  rw [if_pos (by rfl)]
  simp only [List.getElem_toArray, List.getElem_cons_zero, List.getElem_cons_succ]
  go_simp
  refine (VO.out _ (below_on B0.out D0.out)).mono ?_
  rintro e v1 ⟨rfl, n1, hv1⟩
  have D1 := hide (show Below W.heap.size W v1 by rw [hv1]; exact below_drewN D0.out n1)
  clear hv1
  refine hK.out _ _ (KW.out _ (below_on B0.out D1.out)) (fun hHeld => ?_)
  clear hK K
  try simp only [List.getElem_toArray, List.getElem_cons_zero, List.getElem_cons_succ, Act.put, List.setIfInBounds_toArray, List.set_cons_zero, List.set_cons_succ]
  refine wpAnyH_ready (rs := [10]) (by kernel_rfl) (by simp) ?_
  refine AllReadyH.cons rfl (fun K hK => ?_) AllReadyH.nil
  rw [if_pos (by rfl)]
  simp only [List.getElem_toArray, List.getElem_cons_zero, List.getElem_cons_succ]
  go_simp
  refine (BE.out _ (below_on B0.out D1.out)).mono ?_
  rintro e v2 ⟨rfl, hb⟩
  have D2 := hide (below_on D1.out hb)
  clear hb
  refine hK.out _ _ (KW.out _ (below_on B0.out D2.out)) (fun hHeld => ?_)
  clear hK K
  try simp only [List.getElem_toArray, List.getElem_cons_zero, List.getElem_cons_succ, Act.put, List.setIfInBounds_toArray, List.set_cons_zero, List.set_cons_succ]
  refine wpAnyH_take (i := 11) (v := ?_) rfl (by kernel_rfl) (by kernel_rfl) (by kernel_rfl) (fun _ _ _ h => h) (Or.inl ⟨by rfl, ?_⟩) (by assumption) ?_
  rotate_left
  · intro w hSw; (try dsimp only at hSw); (go_simp <;> with_reducible rfl)
  try simp only [List.getElem_toArray, List.getElem_cons_zero, List.getElem_cons_succ, Act.put, List.setIfInBounds_toArray, List.set_cons_zero, List.set_cons_succ]
  refine wpAnyH_take (i := 12) (v := ?_) rfl (by kernel_rfl) (by kernel_rfl) (by kernel_rfl) (fun _ _ _ h => h) (Or.inl ⟨by rfl, ?_⟩) (by assumption) ?_
  rotate_left
  · intro w hSw; (try dsimp only at hSw); (go_simp <;> with_reducible rfl)
  try simp only [List.getElem_toArray, List.getElem_cons_zero, List.getElem_cons_succ, Act.put, List.setIfInBounds_toArray, List.set_cons_zero, List.set_cons_succ]
  refine wpAnyH_ready (rs := [13]) (by kernel_rfl) (by simp) ?_
  refine AllReadyH.cons rfl (fun K hK => ?_) AllReadyH.nil
  rw [if_pos (by rfl)]
  simp only [List.getElem_toArray, List.getElem_cons_zero, List.getElem_cons_succ]
  refine wp_store_row 69 (.tmp 5) (.tmp 18) rfl w.heap.size rfl [.int .i64 rv, .bool rth] [.int .i64 0, .bool false] 69 (R0.out.below' D2.out) rfl rfl (by kernel_rfl) (contentRow_oneCell rv rth) ?_
  intro w5 r5 c5 z5
  have B5 := hide (show Below w.heap.size w w5 from (below_on B0.out D2.out).trans (c5.belowB (fun k hk => by rw [hk]; exact Nat.le_refl _) (below_on B0.out D2.out).size))
  have y0 := r5.cell' (i := 0) rfl
  have y1 := r5.cell' (i := 1) rfl
  clear r5 c5 z5
  refine hK.out _ _ (KW.out _ B5.out) (fun hHeld => ?_)
  clear hK K
  try simp only [Act.put]
  refine wpAnyH_take (i := 14) (v := ?_) rfl (by kernel_rfl) (by kernel_rfl) (by kernel_rfl) (fun _ _ _ h => h) (Or.inl ⟨by rfl, ?_⟩) (by assumption) ?_
  rotate_left
  · intro w hSw; (try dsimp only at hSw); (go_simp <;> with_reducible rfl)
  try simp only [List.getElem_toArray, List.getElem_cons_zero, List.getElem_cons_succ, Act.put, List.setIfInBounds_toArray, List.set_cons_zero, List.set_cons_succ]
  refine wpAnyH_done (by kernel_rfl) ?_ _
  clear hHeld
  try simp only [Act.put]
  go_wp2
  exact bodyPost_ret (v := .tuple #[.agg #[.int .i64 rv, .bool rth], .bool rk]) (by simp [results, Try.results72, go_sem, y0, y1]) rfl ⟨rfl, B5.out⟩

end Go.Proofs.Ytlheloogmgmjnaa

namespace Go.Proofs.Ytlheloogmgmjnaa
open Go.RowKit

set_option maxHeartbeats 400000 in
theorem iTxns_gen {b : Nat} {recs : List PRec} {rcS : Sl} {ends : List Nat} {enS : Sl} (w : World) (h : InAt w b recs rcS ends enS) :
    Calls Try.prog 31 #[.pointer (some ⟨b, 2, none⟩)] w fun e w' => e = .returned (.int .i64 recs.length) ∧ w' = w := by
  have c2 := h.c2
  rw [h.rcn] at c2
  clear h
  go_enter Try.func31, Try.ntmps31
  go_wp2
  go_ret
  exact ⟨rfl, rfl⟩

/-- What Result answers. -/
def SM.result (M : SM) (n : Int) : Bool × Int × Int :=
  if 1 ≤ n ∧ n ≤ M.recs.length then (match M.recs[n.toNat - 1]? with | none => (false, 0, 8) | some r => if r.ended then (r.ab, r.out, 0) else (false, 0, 9)) else (false, 0, 8)

end Go.Proofs.Ytlheloogmgmjnaa

namespace Go.Proofs.Ytlheloogmgmjnaa
open Go.RowKit

def SM.least (M : SM) : Nat := minOf (M.mks.map (·.dealt)) ((M.mks.map (·.dealt)).getD 0 0)
def SM.ready (M : SM) : Nat := wholeB M.ends M.least
def SM.last (M : SM) : Nat := lastOfN M.ends M.ready
def SM.done (M : SM) : Nat := doneN M.recs
def SM.mark (M : SM) : Nat := lastOfN M.ends (wholeB M.ends (doneN M.recs))
def SM.live (M : SM) : Nat := sumTo (fun i => liveOf (M.mapOf i)) M.mks.length

theorem sready_any (M : SM) (w : World) (h : SAt w M) (hdl : ∀ m ∈ M.mks, m.dealt ≤ 1000) :
    Calls Try.prog 30 #[.pointer (some ⟨M.b, 0, none⟩)] w fun e w' => e = .returned (.tuple #[.int .i64 M.ready, .int .i64 M.last]) ∧ Below w.heap.size w w' := pready_gen w h.mkAt h.inAt hdl
theorem slive_any (M : SM) (w : World) (h : SAt w M) (hlv : ∀ n, sumTo (fun i => liveOf (M.mapOf i)) n ≤ 100000) :
    Calls Try.prog 35 #[.pointer (some ⟨M.b, 0, none⟩)] w fun e w' => e = .returned (.int .i64 M.live) ∧ Below w.heap.size w w' :=
  plive_gen w h.mkAt M.mapOf h.maps (fun i k s hs => by unfold SM.mapOf at hs; split at hs; exact h.keys k s hs; cases hs) hlv

set_option maxHeartbeats 400000 in
theorem iBatches_gen {b : Nat} {recs : List PRec} {rcS : Sl} {ends : List Nat} {enS : Sl} (w : World) (h : InAt w b recs rcS ends enS) :
    Calls Try.prog 32 #[.pointer (some ⟨b, 2, none⟩)] w fun e w' => e = .returned (.int .i64 ends.length) ∧ w' = w := by
  have c3 := h.c3
  rw [h.enn] at c3
  clear h
  go_enter Try.func32, Try.ntmps32
  go_wp2
  go_ret
  exact ⟨rfl, rfl⟩

set_option maxHeartbeats 2000000 in
set_option maxRecDepth 100000 in
theorem sShow_any (M : SM) (w : World) (h : SAt w M) (hdl : ∀ m ∈ M.mks, m.dealt ≤ 1000) (hlv : ∀ n, sumTo (fun i => liveOf (M.mapOf i)) n ≤ 100000) :
    Calls Try.prog 12 #[.pointer (some ⟨M.b, 0, none⟩)] w fun e w' => e = .returned (.agg (stCells M.recs.length M.ends.length M.ready M.done M.mark M.taken M.live).toArray) ∧ Below w.heap.size w w' := by
  have RD := hide (fun wx (hb : Below w.heap.size w wx) => sready_any M wx (h.below hb) hdl)
  have H := hide h
  clear h
  go_enter Try.func12, Try.ntmps12
  go_wp2_with fail
  refine (RD.out _ (below_alloc1 _ _)).mono ?_
  rintro e w1 ⟨rfl, hb1⟩
  have G1 := hide ((rowAt_alloc w zeroState 39).below' hb1)
  have B1 := hide (below_alloc hb1)
  clear hb1 RD
  go_wp2
  have H1 := hide ((H.out.below B1.out).below (below_drewN (Below.refl _ _) 1))
  refine wp_region_U (L := #[true, true, true, true, true, true, true, true, true, true, true, true, true, true, true, true, true, true, true, true, true, true, true, true, false]) (S := (fun w' => SAt w' M ∧ RowAt w' w.heap.size 39 zeroState ∧ Below w.heap.size w w')) (by kernel_rfl) ⟨H1.out, G1.out.drew, B1.out.drew⟩ ?_
  refine wpU_take (i := 0) (v := ?_) rfl (by kernel_rfl) (by kernel_rfl) (by kernel_rfl) (by kernel_rfl) (fun _ _ _ h => h) (by rfl) ?_ ?_
  rotate_left
  · intro wx hS; refine lands_value ?_ hS; go_simp <;> with_reducible rfl
  try simp only [List.getElem_toArray, List.getElem_cons_zero, Act.put, List.setIfInBounds_toArray, List.set_cons_zero, List.set_cons_succ]
  refine wpU_take (i := 1) (v := ?_) rfl (by kernel_rfl) (by kernel_rfl) (by kernel_rfl) (by kernel_rfl) (fun _ _ _ h => h) (by rfl) ?_ ?_
  rotate_left
  · intro wx hS; refine lands_value ?_ hS; go_simp <;> with_reducible rfl
  try simp only [List.getElem_toArray, List.getElem_cons_zero, List.getElem_cons_succ, Act.put, List.setIfInBounds_toArray, List.set_cons_zero, List.set_cons_succ]
  refine wpU_take (i := 2) (v := ?_) rfl (by kernel_rfl) (by kernel_rfl) (by kernel_rfl) (by kernel_rfl) (fun _ _ _ h => h) (by rfl) ?_ ?_
  rotate_left
  · intro wx hS; refine lands_value ?_ hS; go_simp <;> with_reducible rfl
  try simp only [List.getElem_toArray, List.getElem_cons_zero, List.getElem_cons_succ, Act.put, List.setIfInBounds_toArray, List.set_cons_zero, List.set_cons_succ]
  refine wpU_take (i := 3) (v := .int .i64 M.recs.length) rfl (by kernel_rfl) (by kernel_rfl) (by kernel_rfl) (by kernel_rfl) (fun _ _ _ h => h) (by rfl) ?_ ?_
  · intro wx hS; refine lands_enter (w := wx) (f := 31) (args := #[.pointer (some ⟨M.b, 2, none⟩)]) (by go_simp) ?_; refine (iTxns_gen wx hS.1.inAt).mono ?_; rintro e w2 ⟨rfl, rfl⟩; exact ⟨rfl, hS⟩
  try simp only [List.getElem_toArray, List.getElem_cons_zero, List.getElem_cons_succ, Act.put, List.setIfInBounds_toArray, List.set_cons_zero, List.set_cons_succ]
  refine wpU_take (i := 4) (v := ?_) rfl (by kernel_rfl) (by kernel_rfl) (by kernel_rfl) (by kernel_rfl) (fun _ _ _ h => h) (by rfl) ?_ ?_
  rotate_left
  · intro wx hS; refine lands_value ?_ hS; go_simp <;> with_reducible rfl
  try simp only [List.getElem_toArray, List.getElem_cons_zero, List.getElem_cons_succ, Act.put, List.setIfInBounds_toArray, List.set_cons_zero, List.set_cons_succ]
  refine wpU_take (i := 5) (v := ?_) rfl (by kernel_rfl) (by kernel_rfl) (by kernel_rfl) (by kernel_rfl) (fun _ _ _ h => h) (by rfl) ?_ ?_
  rotate_left
  · intro wx hS; refine lands_value ?_ hS; go_simp <;> with_reducible rfl
  try simp only [List.getElem_toArray, List.getElem_cons_zero, List.getElem_cons_succ, Act.put, List.setIfInBounds_toArray, List.set_cons_zero, List.set_cons_succ]
  refine wpU_take (i := 6) (v := ?_) rfl (by kernel_rfl) (by kernel_rfl) (by kernel_rfl) (by kernel_rfl) (fun _ _ _ h => h) (by rfl) ?_ ?_
  rotate_left
  · intro wx hS; refine lands_value ?_ hS; go_simp <;> with_reducible rfl
  try simp only [List.getElem_toArray, List.getElem_cons_zero, List.getElem_cons_succ, Act.put, List.setIfInBounds_toArray, List.set_cons_zero, List.set_cons_succ]
  refine wpU_take (i := 7) (v := .int .i64 M.ends.length) rfl (by kernel_rfl) (by kernel_rfl) (by kernel_rfl) (by kernel_rfl) (fun _ _ _ h => h) (by rfl) ?_ ?_
  · intro wx hS; refine lands_enter (w := wx) (f := 32) (args := #[.pointer (some ⟨M.b, 2, none⟩)]) (by go_simp) ?_; refine (iBatches_gen wx hS.1.inAt).mono ?_; rintro e w2 ⟨rfl, rfl⟩; exact ⟨rfl, hS⟩
  try simp only [List.getElem_toArray, List.getElem_cons_zero, List.getElem_cons_succ, Act.put, List.setIfInBounds_toArray, List.set_cons_zero, List.set_cons_succ]
  refine wpU_take (i := 8) (v := ?_) rfl (by kernel_rfl) (by kernel_rfl) (by kernel_rfl) (by kernel_rfl) (fun _ _ _ h => h) (by rfl) ?_ ?_
  rotate_left
  · intro wx hS; refine lands_value ?_ hS; go_simp <;> with_reducible rfl
  try simp only [List.getElem_toArray, List.getElem_cons_zero, List.getElem_cons_succ, Act.put, List.setIfInBounds_toArray, List.set_cons_zero, List.set_cons_succ]
  refine wpU_take (i := 9) (v := ?_) rfl (by kernel_rfl) (by kernel_rfl) (by kernel_rfl) (by kernel_rfl) (fun _ _ _ h => h) (by rfl) ?_ ?_
  rotate_left
  · intro wx hS; refine lands_value ?_ hS; go_simp <;> with_reducible rfl
  try simp only [List.getElem_toArray, List.getElem_cons_zero, List.getElem_cons_succ, Act.put, List.setIfInBounds_toArray, List.set_cons_zero, List.set_cons_succ]
  refine wpU_take (i := 10) (v := ?_) rfl (by kernel_rfl) (by kernel_rfl) (by kernel_rfl) (by kernel_rfl) (fun _ _ _ h => h) (by rfl) ?_ ?_
  rotate_left
  · intro wx hS; refine lands_value ?_ hS; go_simp <;> with_reducible rfl
  try simp only [List.getElem_toArray, List.getElem_cons_zero, List.getElem_cons_succ, Act.put, List.setIfInBounds_toArray, List.set_cons_zero, List.set_cons_succ]
  refine wpU_take (i := 11) (v := ?_) rfl (by kernel_rfl) (by kernel_rfl) (by kernel_rfl) (by kernel_rfl) (fun _ _ _ h => h) (by rfl) ?_ ?_
  rotate_left
  · intro wx hS; refine lands_value ?_ hS; go_simp <;> with_reducible rfl
  try simp only [List.getElem_toArray, List.getElem_cons_zero, List.getElem_cons_succ, Act.put, List.setIfInBounds_toArray, List.set_cons_zero, List.set_cons_succ]
  refine wpU_take (i := 12) (v := .int .i64 M.done) rfl (by kernel_rfl) (by kernel_rfl) (by kernel_rfl) (by kernel_rfl) (fun _ _ _ h => h) (by rfl) ?_ ?_
  · intro wx hS; refine lands_enter (w := wx) (f := 33) (args := #[.pointer (some ⟨M.b, 2, none⟩)]) (by go_simp) ?_; refine (iDone_gen wx hS.1.inAt).mono ?_; rintro e w2 ⟨rfl, rfl⟩; exact ⟨rfl, hS⟩
  try simp only [List.getElem_toArray, List.getElem_cons_zero, List.getElem_cons_succ, Act.put, List.setIfInBounds_toArray, List.set_cons_zero, List.set_cons_succ]
  refine wpU_take (i := 13) (v := ?_) rfl (by kernel_rfl) (by kernel_rfl) (by kernel_rfl) (by kernel_rfl) (fun _ _ _ h => h) (by rfl) ?_ ?_
  rotate_left
  · intro wx hS; refine lands_value ?_ hS; go_simp <;> with_reducible rfl
  try simp only [List.getElem_toArray, List.getElem_cons_zero, List.getElem_cons_succ, Act.put, List.setIfInBounds_toArray, List.set_cons_zero, List.set_cons_succ]
  refine wpU_take (i := 14) (v := ?_) rfl (by kernel_rfl) (by kernel_rfl) (by kernel_rfl) (by kernel_rfl) (fun _ _ _ h => h) (by rfl) ?_ ?_
  rotate_left
  · intro wx hS; refine lands_value ?_ hS; go_simp <;> with_reducible rfl
  try simp only [List.getElem_toArray, List.getElem_cons_zero, List.getElem_cons_succ, Act.put, List.setIfInBounds_toArray, List.set_cons_zero, List.set_cons_succ]
  refine wpU_take (i := 15) (v := ?_) rfl (by kernel_rfl) (by kernel_rfl) (by kernel_rfl) (by kernel_rfl) (fun _ _ _ h => h) (by rfl) ?_ ?_
  rotate_left
  · intro wx hS; refine lands_value ?_ hS; go_simp <;> with_reducible rfl
  try simp only [List.getElem_toArray, List.getElem_cons_zero, List.getElem_cons_succ, Act.put, List.setIfInBounds_toArray, List.set_cons_zero, List.set_cons_succ]
  refine wpU_take (i := 16) (v := .int .i64 M.mark) rfl (by kernel_rfl) (by kernel_rfl) (by kernel_rfl) (by kernel_rfl) (fun _ _ _ h => h) (by rfl) ?_ ?_
  · intro wx hS; refine lands_enter (w := wx) (f := 34) (args := #[.pointer (some ⟨M.b, 2, none⟩)]) (by go_simp) ?_; refine (iMark_gen wx hS.1.inAt).mono ?_; rintro e w2 ⟨rfl, rfl⟩; exact ⟨rfl, hS⟩
  try simp only [List.getElem_toArray, List.getElem_cons_zero, List.getElem_cons_succ, Act.put, List.setIfInBounds_toArray, List.set_cons_zero, List.set_cons_succ]
  refine wpU_take (i := 17) (v := ?_) rfl (by kernel_rfl) (by kernel_rfl) (by kernel_rfl) (by kernel_rfl) (fun _ _ _ h => h) (by rfl) ?_ ?_
  rotate_left
  · intro wx hS; refine lands_value ?_ hS; go_simp <;> with_reducible rfl
  try simp only [List.getElem_toArray, List.getElem_cons_zero, List.getElem_cons_succ, Act.put, List.setIfInBounds_toArray, List.set_cons_zero, List.set_cons_succ]
  refine wpU_take (i := 18) (v := ?_) rfl (by kernel_rfl) (by kernel_rfl) (by kernel_rfl) (by kernel_rfl) (fun _ _ _ h => h) (by rfl) ?_ ?_
  rotate_left
  · intro wx hS; refine lands_value ?_ hS; go_simp <;> with_reducible rfl
  try simp only [List.getElem_toArray, List.getElem_cons_zero, List.getElem_cons_succ, Act.put, List.setIfInBounds_toArray, List.set_cons_zero, List.set_cons_succ]
  refine wpU_take (i := 19) (v := ?_) rfl (by kernel_rfl) (by kernel_rfl) (by kernel_rfl) (by kernel_rfl) (fun _ _ _ h => h) (by rfl) ?_ ?_
  rotate_left
  · intro wx hS; refine lands_value ?_ hS; go_simp <;> with_reducible rfl
  try simp only [List.getElem_toArray, List.getElem_cons_zero, List.getElem_cons_succ, Act.put, List.setIfInBounds_toArray, List.set_cons_zero, List.set_cons_succ]
  refine wpU_take (i := 20) (v := ?_) rfl (by kernel_rfl) (by kernel_rfl) (by kernel_rfl) (by kernel_rfl) (fun _ _ _ h => h) (by rfl) ?_ ?_
  rotate_left
  · intro wx hS; have c1 := hS.1.row.cell' (i := 1) (v := .int .i64 M.taken) rfl; refine lands_value ?_ hS; go_simp <;> with_reducible rfl
  try simp only [List.getElem_toArray, List.getElem_cons_zero, List.getElem_cons_succ, Act.put, List.setIfInBounds_toArray, List.set_cons_zero, List.set_cons_succ]
  refine wpU_take (i := 21) (v := ?_) rfl (by kernel_rfl) (by kernel_rfl) (by kernel_rfl) (by kernel_rfl) (fun _ _ _ h => h) (by rfl) ?_ ?_
  rotate_left
  · intro wx hS; refine lands_value ?_ hS; go_simp <;> with_reducible rfl
  try simp only [List.getElem_toArray, List.getElem_cons_zero, List.getElem_cons_succ, Act.put, List.setIfInBounds_toArray, List.set_cons_zero, List.set_cons_succ]
  refine wpU_take (i := 22) (v := .int .i64 M.live) rfl (by kernel_rfl) (by kernel_rfl) (by kernel_rfl) (by kernel_rfl) (fun _ _ _ h => h) (by rfl) ?_ ?_
  · intro wx hS; refine lands_enter (w := wx) (f := 35) (args := #[.pointer (some ⟨M.b, 0, none⟩)]) (by go_simp) ?_; refine (slive_any M wx hS.1 hlv).mono ?_; rintro e w2 ⟨rfl, hb⟩; exact ⟨rfl, hS.1.below hb, hS.2.1.below' hb, below_on hS.2.2 hb⟩
  try simp only [List.getElem_toArray, List.getElem_cons_zero, List.getElem_cons_succ, Act.put, List.setIfInBounds_toArray, List.set_cons_zero, List.set_cons_succ]
  refine wpU_take (i := 23) (v := ?_) rfl (by kernel_rfl) (by kernel_rfl) (by kernel_rfl) (by kernel_rfl) (fun _ _ _ h => h) (by rfl) ?_ ?_
  rotate_left
  · intro wx hS; refine lands_value ?_ hS; go_simp <;> with_reducible rfl
  try simp only [List.getElem_toArray, List.getElem_cons_zero, List.getElem_cons_succ, Act.put, List.setIfInBounds_toArray, List.set_cons_zero, List.set_cons_succ]
  refine wpU_leaf' _ (by kernel_rfl) ?_
  intro wx hS
  refine wpAny_last (n := 24) (by kernel_rfl) (by kernel_rfl) rfl (by rfl) ?_
  refine wp_store_row 39 (.tmp 2) (.tmp 33) rfl w.heap.size rfl (stCells M.recs.length M.ends.length M.ready M.done M.mark M.taken M.live) zeroState 39 hS.2.1 rfl rfl (by kernel_rfl) (stCells_oneCell _ _ _ _ _ _ _) ?_
  intro w9 r9 c9 s9
  have b := below_on hS.2.2 ((Below.refl wx.heap.size wx))
  have b9 : Below w.heap.size w w9 := hS.2.2.trans (c9.belowB (fun k hk => by omega) hS.2.2.size)
  have y0 := r9.cell' (i := 0) rfl
  have y1 := r9.cell' (i := 1) rfl
  have y2 := r9.cell' (i := 2) rfl
  have y3 := r9.cell' (i := 3) rfl
  have y4 := r9.cell' (i := 4) rfl
  have y5 := r9.cell' (i := 5) rfl
  have y6 := r9.cell' (i := 6) rfl
  clear r9 c9 s9 hS b H1 G1 B1 H
  simp only [Act.put]
  go_wp2
  exact bodyPost_ret (v := .agg (stCells M.recs.length M.ends.length M.ready M.done M.mark M.taken M.live).toArray) (by simp [results, Try.results12, go_sem, y0, y1, y2, y3, y4, y5, y6, stCells]) rfl ⟨rfl, b9⟩

end Go.Proofs.Ytlheloogmgmjnaa
