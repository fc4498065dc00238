import Derived.Test.YtlheloogmgmjnaaT23
import Derived.Test.YtlheloogmgmjnaaT15
import Derived.Test.YtlheloogmgmjnaaT13
import Derived.Test.YtlheloogmgmjnaaT21
namespace Go.Proofs.Ytlheloogmgmjnaa
open Go.RowKit

set_option maxHeartbeats 1000000 in
theorem iClosed_gen {b : Nat} {recs : List PRec} {rcS : Sl} {ends : List Nat} {enS : Sl} (w : World) (h : InAt w b recs rcS ends enS) :
    Calls Try.prog 49 #[.pointer (some ⟨b, 2, none⟩)] w fun e w' => e = .returned (.int .i64 (lastOfN ends ends.length)) ∧ w' = w := by
  have c3 := h.c3
  rw [h.enn] at c3
  have LO := hide (ilastOf_gen w h ends.length (Nat.le_refl _))
  clear h
  go_enter Try.func49, Try.ntmps49
  go_wp2_with (go_at_call 70; refine LO.out.mono ?_; rintro e w' ⟨rfl, rfl⟩)
  go_ret
  exact ⟨rfl, rfl⟩

theorem mkRow_set (l : List SMk) (d : Nat) : ∀ (i : Nat) (m : SMk), l[i]? = some m → (l.flatMap SMk.row).set (i * 2) (.int .i64 d) = (l.set i { m with dealt := d }).flatMap SMk.row := by
  induction l with
  | nil => intro i m h; simp at h
  | cons x l ih =>
    intro i m h
    have e : ∀ (y : SMk) (l : List SMk), (y :: l).flatMap SMk.row = .int .i64 y.dealt :: .map (some y.g) :: l.flatMap SMk.row := by intro y l; simp [SMk.row]
    cases i with
    | zero => simp at h; subst h; simp [e]
    | succ i =>
      have := ih i m (by simpa using h)
      rw [e, List.set_cons_succ, e, show (i + 1) * 2 = i * 2 + 1 + 1 by omega]
      simpa using this

/-- A maker has dealt with so many. -/
def SM.deal (M : SM) (i d : Nat) (m : SMk) : SM := { M with mks := M.mks.set i { m with dealt := d } }
theorem set_map_g (l : List SMk) (i d : Nat) (m : SMk) (h : l[i]? = some m) : (l.set i { m with dealt := d }).map (·.g) = l.map (·.g) := by
  apply List.ext_getElem?
  intro j
  rw [List.getElem?_map, List.getElem?_map, List.getElem?_set]
  split
  · rename_i e
    subst e
    rw [h]
    split
    · rfl
    · rename_i hl
      rw [List.getElem?_eq_none (by omega)] at h; cases h
  · rfl

theorem sAt_deal {w : World} {M : SM} (h : SAt w M) {i d : Nat} {m : SMk} (hi : M.mks[i]? = some m) {g : Nat} (hg : M.mkS.a = some ⟨g, 0, none⟩) : SAt (w.setCell ⟨g, i * 2, none⟩ (.int .i64 d)) (M.deal i d m) := by
  have hc := Chg.setCell w ⟨g, i * 2, none⟩ (.int .i64 d)
  have hgb : g ∈ M.mkS.blk := by simp [Sl.blk, hg]
  have hbase : (M.deal i d m).base = M.base := by
    unfold SM.base SM.deal
    simp only [set_map_g M.mks i d m hi]
  have hnd := h.nodup
  have hne : ∀ k ∈ M.b :: (M.rcS.blk ++ M.enS.blk) ++ (M.doS.blk ++ M.mks.map (·.g)), k ≠ g := by
    intro k hk e
    subst e
    have hp : M.base.Perm (M.mkS.blk ++ ((M.b :: (M.rcS.blk ++ M.enS.blk)) ++ (M.doS.blk ++ M.mks.map (·.g)))) := by
      have e1 : M.base = (M.b :: (M.rcS.blk ++ M.enS.blk)) ++ (M.mkS.blk ++ (M.doS.blk ++ M.mks.map (·.g))) := by simp [SM.base]
      rw [e1]
      exact List.perm_append_comm_assoc _ _ _
    have := (hp.nodup_iff.1 hnd)
    exact (List.nodup_append.1 this).2.2 k hgb k hk rfl
  have hl : (M.deal i d m).mks.length = M.mks.length := by simp [SM.deal]
  refine
    { h with
      row := h.row.chg hc (hne _ (by simp))
      rc := h.rc.chg hc (fun k hk => hne k (by simp [hk]))
      en := h.en.chg hc (fun k hk => hne k (by simp [hk]))
      mO := ?_
      mkn := by rw [hl]; exact h.mkn
      mk1 := by rw [hl]; exact h.mk1
      mk8 := by rw [hl]; exact h.mk8
      dO := h.dO.chg hc (fun k hk => hne k (by simp [hk]))
      maps := ?_
      vers := fun k hk => (h.vers k hk).chg hc (fun x hx e => h.vbase k hk x hx (by
        have e' : x = g := e
        subst e'
        simp only [SM.base, List.mem_cons, List.mem_append]
        exact Or.inr (Or.inr (Or.inr (Or.inl hgb)))))
      nodup := by rw [hbase]; exact hnd
      vbase := by rw [hbase]; exact h.vbase
      txn := ?_ }
  · have := h.mO.set hg (i * 2) (.int .i64 d)
    rw [mkRow_set M.mks d i m hi] at this
    exact this
  · intro j n hj
    have hmo : (M.deal i d m).mapOf j = M.mapOf j := by
      funext q
      unfold SM.mapOf
      rw [hl]
      rfl
    rw [hmo]
    have hj' : (M.mks.set i { m with dealt := d })[j]? = some n := hj
    have key : ∃ n', M.mks[j]? = some n' ∧ n'.g = n.g := by
      rw [List.getElem?_set] at hj'
      split at hj'
      · rename_i e
        subst e
        split at hj'
        · simp at hj'; subst hj'; exact ⟨m, hi, rfl⟩
        · cases hj'
      · exact ⟨n, hj', rfl⟩
    obtain ⟨n', h1, h2⟩ := key
    rw [← h2]
    exact (h.maps j n' h1).chg hc (hne _ (by
      have : n'.g ∈ M.mks.map (·.g) := List.mem_map.2 ⟨n', List.mem_of_getElem? h1, rfl⟩
      simp only [List.mem_append]
      exact Or.inr (Or.inr this)))
  · intro j r t hr ht he
    obtain ⟨a1, a2, a3⟩ := h.txn j r t hr ht he
    have hmut : (M.deal i d m).mut = M.mut := by
      unfold SM.mut
      rw [hbase]
      rfl
    rw [hmut]
    refine ⟨a1.chg hc (fun x hx e => a3 x hx (SM.mem_mut.2 (Or.inl ?_))), a2, a3⟩
    have e' : x = g := e
    subst e'
    simp only [SM.base, List.mem_cons, List.mem_append]
    exact Or.inr (Or.inr (Or.inr (Or.inl hgb)))

end Go.Proofs.Ytlheloogmgmjnaa

namespace Go.Proofs.Ytlheloogmgmjnaa
open Go.RowKit

theorem nodup_parts {b : Nat} {A B C D E : List Nat} (h : (b :: (A ++ (B ++ (C ++ (D ++ E))))).Nodup) :
    (b ∉ A ∧ b ∉ B ∧ b ∉ C ∧ b ∉ D ∧ b ∉ E) ∧ (∀ x ∈ A, x ∉ B ∧ x ∉ C ∧ x ∉ D ∧ x ∉ E) ∧ (∀ x ∈ B, x ∉ C ∧ x ∉ D ∧ x ∉ E) ∧ (∀ x ∈ C, x ∉ D ∧ x ∉ E) ∧ (∀ x ∈ D, x ∉ E) := by
  obtain ⟨h1, h2⟩ := List.nodup_cons.1 h
  simp only [List.mem_append, not_or] at h1
  obtain ⟨_, hB, hAB⟩ := List.nodup_append.1 h2
  obtain ⟨_, hC, hBC⟩ := List.nodup_append.1 hB
  obtain ⟨_, hD, hCD⟩ := List.nodup_append.1 hC
  obtain ⟨_, _, hDE⟩ := List.nodup_append.1 hD
  refine ⟨⟨h1.1, h1.2.1, h1.2.2.1, h1.2.2.2.1, h1.2.2.2.2⟩, fun x hx => ⟨fun hy => hAB x hx x (by simp [hy]) rfl, fun hy => hAB x hx x (by simp [hy]) rfl, fun hy => hAB x hx x (by simp [hy]) rfl, fun hy => hAB x hx x (by simp [hy]) rfl⟩,
    fun x hx => ⟨fun hy => hBC x hx x (by simp [hy]) rfl, fun hy => hBC x hx x (by simp [hy]) rfl, fun hy => hBC x hx x (by simp [hy]) rfl⟩, fun x hx => ⟨fun hy => hCD x hx x (by simp [hy]) rfl, fun hy => hCD x hx x (by simp [hy]) rfl⟩, fun x hx hy => hDE x hx x hy rfl⟩

theorem SAt.g_base {w : World} {M : SM} (_ : SAt w M) {i : Nat} {m : SMk} (hi : M.mks[i]? = some m) : m.g ∈ M.mks.map (·.g) := List.mem_map.2 ⟨m, List.mem_of_getElem? hi, rfl⟩

/-- What is of the base is no version's. -/
theorem SAt.ver_not {w : World} {M : SM} (h : SAt w M) {k : Nat} (hk : k < 24) {x : Nat} (hx : x ∈ (M.vsl k).blk) : x ≠ M.b ∧ x ∉ M.rcS.blk ∧ x ∉ M.enS.blk ∧ x ∉ M.mkS.blk ∧ x ∉ M.doS.blk ∧ x ∉ M.mks.map (·.g) := by
  have := h.vbase k hk x hx
  simp only [SM.base, List.mem_cons, List.mem_append, not_or] at this
  exact this

/-- A key's versions are settled. -/
theorem sAt_settle {w w' : World} {M : SM} (h : SAt w M) {key : Nat} (hk : key < 24) {l' : List Ver} (h2 : VerAt w' (M.vsl key) l') (hc : Chg w w' (fun k => k ∈ (M.vsl key).blk)) :
    SAt w' { M with vs := fun k => if k = key then l' else M.vs k } := by
  have hn : ∀ k, (k = M.b ∨ k ∈ M.rcS.blk ∨ k ∈ M.enS.blk ∨ k ∈ M.mkS.blk ∨ k ∈ M.doS.blk ∨ k ∈ M.mks.map (·.g)) → ¬ k ∈ (M.vsl key).blk := by
    intro k hk1 hk2
    obtain ⟨a, b, c, d, e, f⟩ := h.ver_not hk hk2
    rcases hk1 with h1 | h1 | h1 | h1 | h1 | h1
    · exact a h1
    · exact b h1
    · exact c h1
    · exact d h1
    · exact e h1
    · exact f h1
  exact
    { h with
      row := h.row.chg hc (hn _ (Or.inl rfl))
      rc := h.rc.chg hc (fun k hk => hn k (by simp only [hk, true_or, or_true]))
      en := h.en.chg hc (fun k hk => hn k (by simp only [hk, true_or, or_true]))
      mO := h.mO.chg hc (fun k hk => hn k (by simp only [hk, true_or, or_true]))
      dO := h.dO.chg hc (fun k hk => hn k (by simp only [hk, true_or, or_true]))
      maps := fun i m hi => (h.maps i m hi).chg hc (hn _ (by simp only [h.g_base hi, or_true]))
      vers := fun k hkk => by
        show VerAt w' (M.vsl k) (if k = key then l' else M.vs k)
        by_cases e : k = key
        · subst e; rw [if_pos rfl]; exact h2
        · rw [if_neg e]; exact (h.vers k hkk).chg hc (fun x hx hy => h.vapart k key hkk hk e x hx hy)
      txn := fun i r t hr ht he => by
        obtain ⟨a1, a2, a3⟩ := h.txn i r t hr ht he
        exact ⟨a1.chg hc (fun x hx hy => a3 x hx (SM.mem_mut.2 (Or.inr ⟨key, hk, hy⟩))), a2, a3⟩ }

/-- A transaction's record is that of one that has ended. -/
theorem sAt_endRec {w w' : World} {M : SM} (h : SAt w M) {n : Nat} {ab : Bool} {out : Int} (h2 : Own w' 102 6 M.rcS ((M.recs.set n (PRec.endAs ab out)).flatMap PRec.row)) (hc : Chg w w' (fun k => k ∈ M.rcS.blk)) :
    SAt w' { M with recs := M.recs.set n (PRec.endAs ab out) } := by
  obtain ⟨⟨hb, _⟩, hA, _⟩ := nodup_parts h.nodup
  have hl : (M.recs.set n (PRec.endAs ab out)).length = M.recs.length := by simp
  exact
    { h with
      row := h.row.chg hc hb
      rc := h2
      rcn := by rw [hl]; exact h.rcn
      en := h.en.chg hc (fun k hk hy => (hA k hy).1 hk)
      mO := h.mO.chg hc (fun k hk hy => (hA k hy).2.1 hk)
      dO := h.dO.chg hc (fun k hk hy => (hA k hy).2.2.1 hk)
      maps := fun i m hi => (h.maps i m hi).chg hc (fun hy => (hA _ hy).2.2.2 (h.g_base hi))
      vers := fun k hkk => (h.vers k hkk).chg hc (fun x hx hy => (h.ver_not hkk hx).2.1 hy)
      txl := by rw [hl]; exact h.txl
      txns := by rw [hl]; exact h.txns
      ends1 := by rw [hl]; exact h.ends1
      txn := fun i r t hr ht he => by
        have hr' : (M.recs.set n (PRec.endAs ab out))[i]? = some r := hr
        rw [List.getElem?_set] at hr'
        split at hr'
        · split at hr'
          · simp at hr'; rw [← hr'] at he; cases he
          · cases hr'
        · obtain ⟨a1, a2, a3⟩ := h.txn i r t hr' ht he
          exact ⟨a1.chg hc (fun x hx hy => a3 x hx (SM.mem_mut.2 (Or.inl (by simp [SM.base, hy])))), a2, a3⟩ }

/-- A doer's row has turned. -/
theorem sAt_doer {w w' : World} {M : SM} (h : SAt w M) {n : Nat} {d : SDo} (hd : d.mac.regs.length = 6 ∧ d.mac.says.length = 6) (h2 : Own w' 76 30 M.doS ((M.dos.set n d).flatMap SDo.row)) (hc : Chg w w' (fun k => k ∈ M.doS.blk)) :
    SAt w' { M with dos := M.dos.set n d } := by
  obtain ⟨⟨_, _, _, hb, _⟩, hA, hB, hC, hD⟩ := nodup_parts h.nodup
  have hl : (M.dos.set n d).length = M.dos.length := by simp
  exact
    { h with
      row := h.row.chg hc hb
      rc := h.rc.chg hc (fun k hk hy => (hA k hk).2.2.1 hy)
      en := h.en.chg hc (fun k hk hy => (hB k hk).2.1 hy)
      mO := h.mO.chg hc (fun k hk hy => (hC k hk).1 hy)
      dO := h2
      don := by rw [hl]; exact h.don
      do1 := by rw [hl]; exact h.do1
      do6 := by rw [hl]; exact h.do6
      dr := fun x hx => by
        rcases List.mem_or_eq_of_mem_set hx with h1 | h1
        · exact h.dr x h1
        · rw [h1]; exact hd
      maps := fun i m hi => (h.maps i m hi).chg hc (fun hy => hD _ hy (h.g_base hi))
      vers := fun k hkk => (h.vers k hkk).chg hc (fun x hx hy => (h.ver_not hkk hx).2.2.2.2.1 hy)
      txn := fun i r t hr ht he => by
        obtain ⟨a1, a2, a3⟩ := h.txn i r t hr ht he
        exact ⟨a1.chg hc (fun x hx hy => a3 x hx (SM.mem_mut.2 (Or.inl (by simp [SM.base, hy])))), a2, a3⟩ }

/-- The store's own row has turned: how many were taken. -/
theorem sAt_took {w w' : World} {M : SM} (h : SAt w M) {n : Nat} (h2 : RowAt w' M.b 64 { M with took := n }.row) (hc : Chg w w' (· = M.b)) : SAt w' { M with took := n } := by
  obtain ⟨⟨b1, b2, b3, b4, b5⟩, _⟩ := nodup_parts h.nodup
  exact
    { h with
      row := h2
      rc := h.rc.chg hc (fun k hk hy => b1 (hy ▸ hk))
      en := h.en.chg hc (fun k hk hy => b2 (hy ▸ hk))
      mO := h.mO.chg hc (fun k hk hy => b3 (hy ▸ hk))
      dO := h.dO.chg hc (fun k hk hy => b4 (hy ▸ hk))
      maps := fun i m hi => (h.maps i m hi).chg hc (fun hy => b5 (hy ▸ h.g_base hi))
      vers := fun k hkk => (h.vers k hkk).chg hc (fun x hx hy => (h.ver_not hkk hx).1 hy)
      txn := fun i r t hr ht he => by
        obtain ⟨a1, a2, a3⟩ := h.txn i r t hr ht he
        exact ⟨a1.chg hc (fun x hx hy => a3 x hx (SM.mem_mut.2 (Or.inl (by rw [hy]; simp [SM.base])))), a2, a3⟩ }

end Go.Proofs.Ytlheloogmgmjnaa

namespace Go.Proofs.Ytlheloogmgmjnaa
open Go.RowKit

theorem SDo.row_length {d : SDo} (h : d.mac.regs.length = 6 ∧ d.mac.says.length = 6) : d.row.length = 30 := by
  simp [SDo.row, Mac.row_length h.1 h.2]

theorem doRows_length (l : List SDo) (h : ∀ d ∈ l, d.mac.regs.length = 6 ∧ d.mac.says.length = 6) : (l.flatMap SDo.row).length = l.length * 30 := by
  induction l with
  | nil => rfl
  | cons d l ih =>
    rw [List.flatMap_cons, List.length_append, SDo.row_length (h d (by simp)), ih (fun x hx => h x (by simp [hx]))]
    simp; omega

/-- A doer: where its number and its machine lie; and how the store stands when they have turned. -/
theorem SAt.doer {w : World} {M : SM} (h : SAt w M) {n : Nat} {d : SDo} (hd : M.dos[n]? = some d) :
    ∃ g pre suf, M.doS.a = some ⟨g, 0, none⟩ ∧ pre.length = n * 30 ∧ w.cell? ⟨g, n * 30, none⟩ = some (.int .i64 d.txn) ∧ RowAt w g 76 (pre ++ (d.row ++ suf)) ∧ MacAt w g 76 (pre ++ [.int .i64 d.txn]) suf d.mac ∧ g ∈ M.doS.blk ∧
      ∀ (w' : World) (d' : SDo), d'.mac.regs.length = 6 ∧ d'.mac.says.length = 6 → RowAt w' g 76 (pre ++ (d'.row ++ suf)) → Chg w w' (· = g) → SAt w' { M with dos := M.dos.set n d' } := by
  have hn : n < M.dos.length := by
    by_cases hb : n < M.dos.length
    · exact hb
    · rw [List.getElem?_eq_none (by omega)] at hd; cases hd
  have hdn : M.dos[n] = d := by rw [List.getElem?_eq_getElem hn] at hd; exact Option.some.inj hd
  have hdr := h.dr d (by rw [← hdn]; exact List.getElem_mem hn)
  have split : ∀ x : SDo, (M.dos.set n x).flatMap SDo.row = (M.dos.take n).flatMap SDo.row ++ (x.row ++ (M.dos.drop (n + 1)).flatMap SDo.row) := by
    intro x
    rw [List.set_eq_take_append_cons_drop, if_pos hn, List.flatMap_append, List.flatMap_cons]
  have hself : M.dos = M.dos.set n d := by
    rw [← hdn]; exact (List.set_getElem_self hn).symm
  have hO := h.dO
  rw [hself, split d] at hO
  obtain ⟨g, suf, hg, hr, back⟩ := hO.mid (by rw [SDo.row_length hdr]; omega)
  have hpl : ((M.dos.take n).flatMap SDo.row).length = n * 30 := by
    rw [doRows_length _ (fun x hx => h.dr x (List.mem_of_mem_take hx)), List.length_take, Nat.min_eq_left (by omega)]
  refine ⟨g, (M.dos.take n).flatMap SDo.row, suf, hg, hpl, ?_, hr, ⟨?_, hdr.1, hdr.2⟩, by simp [Sl.blk, hg], ?_⟩
  · have := hr.cell' (i := n * 30) (v := .int .i64 d.txn) (by
      have := mid_get (pre := (M.dos.take n).flatMap SDo.row) (row := d.row) (suf := suf) (i := 0) (v := .int .i64 d.txn) rfl
      rw [hpl, Nat.add_zero] at this
      exact this)
    exact this
  · rw [List.append_assoc]
    exact hr
  · intro w' d' hd' hr' hc
    refine sAt_doer h hd' ?_ (hc.mono (fun k _ (e : k = g) => by rw [e]; simp [Sl.blk, hg]))
    rw [split d']
    exact back w' d'.row (by rw [SDo.row_length hd', SDo.row_length hdr]) hr'

set_option maxHeartbeats 1000000 in
theorem endIfDone_no (M : SM) (w : World) (h : SAt w M) (n : Nat) (d : SDo) (hd : M.dos[n]? = some d) (g : Nat) (hg : M.doS.a = some ⟨g, 0, none⟩) (he : (d.mac.ab || decide (d.mac.h.c.n ≤ d.mac.next)) = false) :
    Calls Try.prog 75 #[.pointer (some ⟨M.b, 0, none⟩), .pointer (some ⟨g, n * 30, none⟩)] w fun e w' => e = .returned (.tuple #[]) ∧ ∃ k, w' = w.drewN k := by
  obtain ⟨g', pre, suf, hg', hpl, _, _, hm, _⟩ := h.doer hd
  obtain rfl : g' = g := by rw [hg] at hg'; simpa using hg'.symm
  have ME := hide (mEnded_any g' 76 (pre ++ [.int .i64 d.txn]) suf d.mac w hm)
  rw [he] at ME
  have e1 : (pre ++ [Value.int .i64 d.txn]).length = n * 30 + 1 := by simp [hpl]
  rw [e1] at ME
  clear h hm hg hg'
  go_enter Try.func75, Try.ntmps75
  go_wp2_with (go_at_call 89; refine ME.out.mono ?_; rintro e w' ⟨rfl, k, rfl⟩)
  exact bodyPost_ret (v := .tuple #[]) (by simp [results, Try.results75, go_sem]) rfl ⟨rfl, k, rfl⟩

end Go.Proofs.Ytlheloogmgmjnaa

namespace Go.Proofs.Ytlheloogmgmjnaa
open Go.RowKit

theorem Sl.blk_nodup (s : Sl) : s.blk.Nodup := by unfold Sl.blk; split <;> simp

theorem nodup_swap {b : Nat} {A B B' R : List Nat} {N : Nat} (h : (b :: (A ++ (B ++ R))).Nodup) (hlt : ∀ x ∈ b :: (A ++ (B ++ R)), x < N) (hB : B'.Nodup) (hs : ∀ x ∈ B', x ∈ B ∨ N ≤ x) : (b :: (A ++ (B' ++ R))).Nodup := by
  obtain ⟨h1, h2⟩ := List.nodup_cons.1 h
  obtain ⟨hA, hBR, hAB⟩ := List.nodup_append.1 h2
  obtain ⟨_, hR, hBR'⟩ := List.nodup_append.1 hBR
  simp only [List.mem_append, not_or] at h1
  refine List.nodup_cons.2 ⟨?_, List.nodup_append.2 ⟨hA, List.nodup_append.2 ⟨hB, hR, ?_⟩, ?_⟩⟩
  · simp only [List.mem_append, not_or]
    refine ⟨h1.1, fun hx => ?_, h1.2.2⟩
    rcases hs b hx with h3 | h3
    · exact h1.2.1 h3
    · have := hlt b (by simp); omega
  · intro x hx y hy e
    subst e
    rcases hs x hx with h3 | h3
    · exact hBR' x h3 x hy rfl
    · have := hlt x (by simp [hy]); omega
  · intro x hx y hy e
    subst e
    rcases List.mem_append.1 hy with h3 | h3
    · rcases hs x h3 with h4 | h4
      · exact hAB x hx x (by simp [h4]) rfl
      · have := hlt x (by simp [hx]); omega
    · exact hAB x hx x (by simp [h3]) rfl

/-- A batch more is closed. -/
def SM.withEnd (M : SM) (s : Sl) : SM := { M with ends := M.ends ++ [M.recs.length], enS := s }

theorem sAt_withEnd {w w1 : World} {M : SM} (h : SAt w M) (hel : M.ends.length + 1 ≤ M.recs.length) {s : Sl} (ow : Own w1 3 1 s (ints (nats M.ends) ++ [.int .i64 M.recs.length])) (sn : s.n = M.enS.n + 1)
    (hc : Chg w w1 (fun k => k ∈ M.enS.blk)) (hb : ∀ k ∈ s.blk, k ∈ M.enS.blk ∨ w.heap.size ≤ k) :
    SAt (w1.setCell ⟨M.b, 3, none⟩ (.slice s.a s.n s.c)) (M.withEnd s) ∧ Chg w (w1.setCell ⟨M.b, 3, none⟩ (.slice s.a s.n s.c)) (fun k => k ∈ M.mut) := by
  obtain ⟨⟨b1, b2, b3, b4, b5⟩, hA, hB, hC, hD⟩ := nodup_parts h.nodup
  have hc2 : Chg w (w1.setCell ⟨M.b, 3, none⟩ (.slice s.a s.n s.c)) (fun k => k = M.b ∨ k ∈ M.enS.blk) :=
    (hc.mono (fun _ _ hk => Or.inr hk)).trans ((Chg.setCell w1 ⟨M.b, 3, none⟩ (.slice s.a s.n s.c)).mono (fun _ _ hk => Or.inl hk))
  have hlt := h.base_lt
  have hbs : M.b ∉ s.blk := fun hx => by
    rcases hb _ hx with h1 | h1
    · exact b2 h1
    · have := h.row.lt; omega
  have hbase : ∀ x, x ∈ (M.withEnd s).base → x ∈ M.base ∨ w.heap.size ≤ x := by
    intro x hx
    simp only [SM.base, SM.withEnd, List.mem_cons, List.mem_append] at hx ⊢
    rcases hx with h1 | h1 | h1 | h1 | h1 | h1
    · exact Or.inl (Or.inl h1)
    · exact Or.inl (Or.inr (Or.inl h1))
    · rcases hb x h1 with h2 | h2
      · exact Or.inl (Or.inr (Or.inr (Or.inl h2)))
      · exact Or.inr h2
    · exact Or.inl (Or.inr (Or.inr (Or.inr (Or.inl h1))))
    · exact Or.inl (Or.inr (Or.inr (Or.inr (Or.inr (Or.inl h1)))))
    · exact Or.inl (Or.inr (Or.inr (Or.inr (Or.inr (Or.inr h1)))))
  refine ⟨?_, hc2.mono (fun k _ hk => by
    rcases hk with hk | hk
    · exact SM.mem_mut.2 (Or.inl (by rw [hk]; simp [SM.base]))
    · exact SM.mem_mut.2 (Or.inl (by simp [SM.base, hk])))⟩
  exact
    { h with
      row := by
        have := (h.row.chg hc b2).set 3 (.slice s.a s.n s.c)
        exact this
      rc := h.rc.chg hc2 (fun k hk hy => by rcases hy with hy | hy; exact b1 (hy ▸ hk); exact (hA k hk).1 hy)
      en := by
        have e : ints (nats (M.ends ++ [M.recs.length])) = ints (nats M.ends) ++ [.int .i64 M.recs.length] := by simp [ints, nats]
        show Own _ 3 1 s (ints (nats (M.ends ++ [M.recs.length])))
        rw [e]
        exact ow.chg (Chg.setCell w1 ⟨M.b, 3, none⟩ _) (fun k hk hy => hbs (by rw [← (show k = M.b from hy)]; exact hk))
      enn := by show s.n = (M.ends ++ [M.recs.length]).length; rw [sn, h.enn]; simp
      mO := h.mO.chg hc2 (fun k hk hy => by rcases hy with hy | hy; exact b3 (hy ▸ hk); exact (hB k hy).1 hk)
      dO := h.dO.chg hc2 (fun k hk hy => by rcases hy with hy | hy; exact b4 (hy ▸ hk); exact (hB k hy).2.1 hk)
      maps := fun i m hi => (h.maps i m hi).chg hc2 (fun hy => by rcases hy with hy | hy; exact b5 (hy ▸ h.g_base hi); exact (hB _ hy).2.2 (h.g_base hi))
      vers := fun k hkk => (h.vers k hkk).chg hc2 (fun x hx hy => by rcases hy with hy | hy; exact (h.ver_not hkk hx).1 hy; exact (h.ver_not hkk hx).2.2.1 hy)
      nodup := nodup_swap (A := M.rcS.blk) (B := M.enS.blk) h.nodup hlt s.blk_nodup hb
      vbase := fun k hkk x hx hy => by
        rcases hbase x hy with h1 | h1
        · exact h.vbase k hkk x hx h1
        · have := h.ver_lt hkk x hx; omega
      txn := fun i r t hr ht he => by
        obtain ⟨a1, a2, a3⟩ := h.txn i r t hr ht he
        refine ⟨a1.chg hc2 (fun x hx hy => a3 x hx (SM.mem_mut.2 (Or.inl ?_))), a2, fun x hx hy => ?_⟩
        · rcases hy with hy | hy
          · rw [hy]; simp [SM.base]
          · simp [SM.base, hy]
        · rcases SM.mem_mut.1 hy with h1 | ⟨k, hk, h1⟩
          · rcases hbase x h1 with h2 | h2
            · exact a3 x hx (SM.mem_mut.2 (Or.inl h2))
            · have := a1.blk_lt x hx; omega
          · exact a3 x hx (SM.mem_mut.2 (Or.inr ⟨k, hk, h1⟩))
      ends1 := by show (M.ends ++ [M.recs.length]).length ≤ M.recs.length; simpa using hel }

set_option maxHeartbeats 1000000 in
set_option maxRecDepth 100000 in
theorem iopen_gen (M : SM) (w : World) (h : SAt w M) (hcl : M.closed ≤ M.recs.length) :
    Calls Try.prog 69 #[.pointer (some ⟨M.b, 2, none⟩)] w fun e w' => e = .returned (.int .i64 (M.recs.length - M.closed : Nat)) ∧ ∃ n, w' = w.drewN n := by
  have c2 := h.inAt.c2
  rw [h.rcn] at c2
  have CL := hide (fun n => iClosed_gen (w.drewN n) (h.below (below_drewN (Below.refl _ _) n)).inAt)
  change Hid (∀ n, Calls Try.prog 49 #[.pointer (some ⟨M.b, 2, none⟩)] (w.drewN n) fun e w' => e = .returned (.int .i64 M.closed) ∧ w' = w.drewN n) at CL
  have ht := h.txns
  clear h
  generalize M.closed = C at *
  go_enter Try.func69, Try.ntmps69
  go_wp2
  go_quiet ((go_at_call 49; exact Calls.quiet_of_same (CL.out _)))
  go_wp2
  go_ret
  exact ⟨ret_int (by omega), _, rfl⟩

set_option maxHeartbeats 2000000 in
set_option maxRecDepth 100000 in
theorem sClose_no (M : SM) (w : World) (h : SAt w M) (hcl : M.closed ≤ M.recs.length) (hlt : ¬ M.closed < M.recs.length) :
    Calls Try.prog 48 #[.pointer (some ⟨M.b, 2, none⟩)] w fun e w' => (∃ v, e = .returned v) ∧ ∃ n, w' = w.drewN n := by
  have OP := hide (iopen_gen M w h hcl)
  rw [show M.recs.length - M.closed = 0 by omega] at OP
  clear h hlt
  go_enter Try.func48, Try.ntmps48
  go_wp2_with (go_at_call 69; refine OP.out.mono ?_; rintro e w' ⟨rfl, n, rfl⟩)
  refine bodyPost_end (results_none rfl _ _ _) rfl ?_
  exact ⟨⟨_, rfl⟩, _, rfl⟩

set_option maxHeartbeats 2000000 in
set_option maxRecDepth 100000 in
theorem sClose_yes (M : SM) (w : World) (h : SAt w M) (hcl : M.closed ≤ M.recs.length) (hel : M.ends.length + 1 ≤ M.recs.length) (hlt : M.closed < M.recs.length) :
    Calls Try.prog 48 #[.pointer (some ⟨M.b, 2, none⟩)] w fun e w' => (∃ v, e = .returned v) ∧ ∃ s, SAt w' (M.withEnd s) ∧ Chg w w' (fun k => k ∈ M.mut) ∧ (∀ k ∈ s.blk, k ∈ M.enS.blk ∨ w.heap.size ≤ k) := by
  obtain ⟨i0, hi, hz0, hz1, hz2⟩ := info_parts Try.info3
  have c2 := h.row.cell' (i := 2) (v := .slice M.rcS.a M.rcS.n M.rcS.c) rfl
  have c3 := h.row.cell' (i := 3) (v := .slice M.enS.a M.enS.n M.enS.c) rfl
  have cf3 := h.row.frozen 3
  rw [h.rcn] at c2
  have ht := h.txns
  have hbl := h.row.lt
  have OP := hide (iopen_gen M w h hcl)
  have hop : (0 : Int) < ((M.recs.length - M.closed : Nat) : Int) := by omega
  have MM := hide (show M.enS.n + 1 ≤ maxLen by rw [h.enn]; unfold maxLen; omega)
  have QQ := hide (show (M.enS.n + 1) * 8 ≤ 140737488355328 by rw [h.enn]; omega)
  have HR := hide h
  have HL := hide hlt
  clear h hlt hcl
  generalize M.recs.length - M.closed = O at *
  go_enter Try.func48, Try.ntmps48
  go_wp2_with (go_at_call 69; refine OP.out.mono ?_; rintro e w' ⟨rfl, nq, rfl⟩)
  have HW := hide (HR.out.below (below_drewN (Below.refl _ _) nq))
  have CW := hide (Chg.drewN w nq (fun _ => False))
  have hsz : (w.drewN nq).heap.size = w.heap.size := rfl
  have d2 : (w.drewN nq).cell? ⟨M.b, 2, none⟩ = some (.slice M.rcS.a M.recs.length M.rcS.c) := c2
  have d3 : (w.drewN nq).cell? ⟨M.b, 3, none⟩ = some (.slice M.enS.a M.enS.n M.enS.c) := c3
  have df : (w.drewN nq).frozen? ⟨M.b, 3, none⟩ = false := cf3
  have hbl' : M.b < (w.drewN nq).heap.size := hbl
  have SZ := hide hsz
  clear hsz c2 c3 cf3 OP hbl
  generalize w.drewN nq = W at *
  have P1 := hide (rowAt_alloc W [.int .i64 M.recs.length] 3)
  have NB := hide ((nodup_parts HR.out.nodup).1.2.1)
  go_region_law (go_must (refine step_append_sl rfl (.tmp 9) (.tmp 15) 22 rfl 3 i0 (.int .i64 0) 1 8 Try.underlying22 hi hz0 hz1 hz2 rfl (by decide) M.enS (ints (nats M.ends)) rfl (HW.out.en.below (by first | exact (below_alloc1 _ _).drew | exact (Below.refl _ _).drew.alloc (Nat.le_refl _) _)) (some ⟨W.heap.size, 0, none⟩) 1 1 [.int .i64 M.recs.length] rfl rfl (by simp) (fun ad had j u hu => by cases had; rw [addr_add, Nat.zero_add]; first | exact (P1.out.drew).cell' hu | exact P1.out.cell' hu) (by simp [Value.oneCell']) MM.out QQ.out ?_; intro s1 w1 ow1 sn1 ch1 bl1; have OW := hide ow1; have SN := hide sn1; have CH := hide ch1; have BL := hide bl1; have f3 := ((by first | exact ((HW.out.row.alloc _).drew.chg ch1 NB.out) | exact ((HW.out.row.drew.alloc _).chg ch1 NB.out) : RowAt w1 M.b 64 M.row)); have g3 := f3.cell' (i := 3) rfl; have gf := f3.frozen 3; clear ow1 sn1 ch1 bl1 f3))
  all_goals
    have hcc : Chg w w1 (fun k => k ∈ M.enS.blk) := (CW.out.mono (fun _ _ h => h.elim)).trans ((Chg.of_below (below_alloc1 W (.cells #[.int .i64 M.recs.length] 3)).drew _).trans CH.out)
    have hbb : ∀ k ∈ s1.blk, k ∈ M.enS.blk ∨ w.heap.size ≤ k := fun k hk => (BL.out k hk).imp id (fun h => by rw [h, ← SZ.out]; show W.heap.size ≤ (W.alloc _).heap.size; simp)
    obtain ⟨r1, r2⟩ := sAt_withEnd HR.out hel OW.out SN.out hcc hbb
    have RR := hide r1; have CC := hide r2; have FF := hide hbb
    clear r1 r2 hcc hbb OW SN CH BL HW CW d2 d3 df P1
    go_wp2
    refine bodyPost_end (results_none rfl _ _ _) rfl ?_
    exact ⟨⟨_, rfl⟩, s1, RR.out, CC.out, FF.out⟩

set_option maxHeartbeats 2000000 in
set_option maxRecDepth 100000 in
theorem sCut_no (M : SM) (w : World) (h : SAt w M) (hcl : M.closed ≤ M.recs.length) (hlt : ¬ M.closed < M.recs.length) :
    Calls Try.prog 26 #[.pointer (some ⟨M.b, 0, none⟩)] w fun e w' => e = .returned (.int .i64 M.ends.length) ∧ ∃ n, w' = w.drewN n := by
  have CL := hide (sClose_no M w h hcl hlt)
  have BA := hide (fun n => iBatches_gen (w.drewN n) (h.below (below_drewN (Below.refl _ _) n)).inAt)
  clear h hlt
  go_enter Try.func26, Try.ntmps26
  go_wp2_with (first | (go_at_call 48; refine CL.out.mono ?_; rintro e w' ⟨⟨v, rfl⟩, n, rfl⟩) | (go_at_call 32; refine (BA.out _).mono ?_; rintro e w' ⟨rfl, rfl⟩))
  go_ret
  exact ⟨rfl, _, rfl⟩

set_option maxHeartbeats 2000000 in
set_option maxRecDepth 100000 in
theorem sCut_yes (M : SM) (w : World) (h : SAt w M) (hcl : M.closed ≤ M.recs.length) (hel : M.ends.length + 1 ≤ M.recs.length) (hlt : M.closed < M.recs.length) :
    Calls Try.prog 26 #[.pointer (some ⟨M.b, 0, none⟩)] w fun e w' => ∃ s, e = .returned (.int .i64 (M.ends.length + 1 : Nat)) ∧ SAt w' (M.withEnd s) ∧ Chg w w' (fun k => k ∈ M.mut) ∧ (∀ k ∈ s.blk, k ∈ M.enS.blk ∨ w.heap.size ≤ k) := by
  have CL := hide (sClose_yes M w h hcl hel hlt)
  clear h hlt
  go_enter Try.func26, Try.ntmps26
  go_wp2_with fail
  refine CL.out.mono ?_
  rintro e w1 ⟨⟨v, rfl⟩, s, hp, hc, hf⟩
  have BA : Hid (Calls Try.prog 32 #[.pointer (some ⟨M.b, 2, none⟩)] w1 fun e w' => e = .returned (.int .i64 ((M.ends ++ [M.recs.length]).length : Nat)) ∧ w' = w1) := hide (iBatches_gen w1 hp.inAt)
  have HP := hide hp; have HC := hide hc; have HF := hide hf
  clear hp hc hf CL
  go_wp2_with (go_at_call 32; refine BA.out.mono ?_; rintro e w' ⟨rfl, rfl⟩)
  go_ret
  exact ⟨s, ret_int (by simp), HP.out, HC.out, HF.out⟩

end Go.Proofs.Ytlheloogmgmjnaa

namespace Go.Proofs.Ytlheloogmgmjnaa
open Go.RowKit

/-- A transaction more has come in. -/
def SM.withRec (M : SM) (r : PRec) (t : Tx) (s : Sl) : SM := { M with recs := M.recs ++ [r], txs := M.txs ++ [t], rcS := s }

theorem sAt_withRec {w w1 : World} {M : SM} (h : SAt w M) (hlen : M.recs.length + 1 ≤ 150) {r : PRec} {t : Tx} {s : Sl} (ow : Own w1 102 6 s (M.recs.flatMap PRec.row ++ r.row)) (sn : s.n = M.rcS.n + 1)
    (hc : Chg w w1 (fun k => k ∈ M.rcS.blk)) (hb : ∀ k ∈ s.blk, k ∈ M.rcS.blk ∨ w.heap.size ≤ k) (ho : OwnTx w r.h t) (hk : checkN t = 0) (hx : ∀ k ∈ r.h.blks, k ∉ M.mut) :
    SAt (w1.setCell ⟨M.b, 2, none⟩ (.slice s.a s.n s.c)) (M.withRec r t s) ∧ Chg w (w1.setCell ⟨M.b, 2, none⟩ (.slice s.a s.n s.c)) (fun k => k ∈ M.mut) := by
  obtain ⟨⟨b1, b2, b3, b4, b5⟩, hA, hB, hC, hD⟩ := nodup_parts h.nodup
  have hc2 : Chg w (w1.setCell ⟨M.b, 2, none⟩ (.slice s.a s.n s.c)) (fun k => k = M.b ∨ k ∈ M.rcS.blk) :=
    (hc.mono (fun _ _ hk => Or.inr hk)).trans ((Chg.setCell w1 ⟨M.b, 2, none⟩ (.slice s.a s.n s.c)).mono (fun _ _ hk => Or.inl hk))
  have hlt := h.base_lt
  have hbs : M.b ∉ s.blk := fun hx => by
    rcases hb _ hx with h1 | h1
    · exact b1 h1
    · have := h.row.lt; omega
  have hbase : ∀ x, x ∈ (M.withRec r t s).base → x ∈ M.base ∨ w.heap.size ≤ x := by
    intro x hx
    simp only [SM.base, SM.withRec, List.mem_cons, List.mem_append] at hx ⊢
    rcases hx with h1 | h1 | h1 | h1 | h1 | h1
    · exact Or.inl (Or.inl h1)
    · rcases hb x h1 with h2 | h2
      · exact Or.inl (Or.inr (Or.inl h2))
      · exact Or.inr h2
    · exact Or.inl (Or.inr (Or.inr (Or.inl h1)))
    · exact Or.inl (Or.inr (Or.inr (Or.inr (Or.inl h1))))
    · exact Or.inl (Or.inr (Or.inr (Or.inr (Or.inr (Or.inl h1)))))
    · exact Or.inl (Or.inr (Or.inr (Or.inr (Or.inr (Or.inr h1)))))
  have hmutn : ∀ (q : TH) (u : Tx), OwnTx w q u → (∀ k ∈ q.blks, k ∉ M.mut) → ∀ k ∈ q.blks, k ∉ (M.withRec r t s).mut := by
    intro q u hq hn k hkq hy
    rcases SM.mem_mut.1 hy with h1 | ⟨j, hj, h1⟩
    · rcases hbase k h1 with h2 | h2
      · exact hn k hkq (SM.mem_mut.2 (Or.inl h2))
      · have := hq.blk_lt k hkq; omega
    · exact hn k hkq (SM.mem_mut.2 (Or.inr ⟨j, hj, h1⟩))
  have hown : ∀ (q : TH) (u : Tx), OwnTx w q u → (∀ k ∈ q.blks, k ∉ M.mut) → OwnTx (w1.setCell ⟨M.b, 2, none⟩ (.slice s.a s.n s.c)) q u := by
    intro q u hq hn
    refine hq.chg hc2 (fun x hxq hy => hn x hxq (SM.mem_mut.2 (Or.inl ?_)))
    rcases hy with hy | hy
    · rw [hy]; simp [SM.base]
    · simp [SM.base, hy]
  refine ⟨?_, hc2.mono (fun k _ hk => by
    rcases hk with hk | hk
    · exact SM.mem_mut.2 (Or.inl (by rw [hk]; simp [SM.base]))
    · exact SM.mem_mut.2 (Or.inl (by simp [SM.base, hk])))⟩
  have hl : (M.recs ++ [r]).length = M.recs.length + 1 := by simp
  exact
    { h with
      row := by
        have := (h.row.chg hc b1).set 2 (.slice s.a s.n s.c)
        exact this
      rc := by
        have e : (M.recs ++ [r]).flatMap PRec.row = M.recs.flatMap PRec.row ++ r.row := by simp
        show Own _ 102 6 s ((M.recs ++ [r]).flatMap PRec.row)
        rw [e]
        exact ow.chg (Chg.setCell w1 ⟨M.b, 2, none⟩ _) (fun k hk hy => hbs (by rw [← (show k = M.b from hy)]; exact hk))
      rcn := by show s.n = (M.recs ++ [r]).length; rw [sn, h.rcn, hl]
      en := h.en.chg hc2 (fun k hk hy => by rcases hy with hy | hy; exact b2 (hy ▸ hk); exact (hA k hy).1 hk)
      mO := h.mO.chg hc2 (fun k hk hy => by rcases hy with hy | hy; exact b3 (hy ▸ hk); exact (hA k hy).2.1 hk)
      dO := h.dO.chg hc2 (fun k hk hy => by rcases hy with hy | hy; exact b4 (hy ▸ hk); exact (hA k hy).2.2.1 hk)
      maps := fun i m hi => (h.maps i m hi).chg hc2 (fun hy => by rcases hy with hy | hy; exact b5 (hy ▸ h.g_base hi); exact (hA _ hy).2.2.2 (h.g_base hi))
      vers := fun k hkk => (h.vers k hkk).chg hc2 (fun x hx hy => by rcases hy with hy | hy; exact (h.ver_not hkk hx).1 hy; exact (h.ver_not hkk hx).2.1 hy)
      nodup := by
        have := nodup_swap (A := []) (B := M.rcS.blk) (B' := s.blk) (N := w.heap.size) h.nodup hlt s.blk_nodup hb
        exact this
      vbase := fun k hkk x hx hy => by
        rcases hbase x hy with h1 | h1
        · exact h.vbase k hkk x hx h1
        · have := h.ver_lt hkk x hx; omega
      txn := fun i q u hr ht he => by
        have hr' : (M.recs ++ [r])[i]? = some q := hr
        have ht' : (M.txs ++ [t])[i]? = some u := ht
        by_cases hi : i < M.recs.length
        · rw [List.getElem?_append_left hi] at hr'
          rw [List.getElem?_append_left (by rw [h.txl]; exact hi)] at ht'
          obtain ⟨a1, a2, a3⟩ := h.txn i q u hr' ht' he
          exact ⟨hown q.h u a1 a3, a2, hmutn q.h u a1 a3⟩
        · have hil : i < (M.recs ++ [r]).length := by
            by_cases hb : i < (M.recs ++ [r]).length
            · exact hb
            · rw [List.getElem?_eq_none (by omega)] at hr'; cases hr'
          obtain rfl : i = M.recs.length := by omega
          have e1 : q = r := by simpa using hr'.symm
          have e2 : u = t := by rw [← h.txl] at ht'; simpa using ht'.symm
          subst e1 e2
          exact ⟨hown _ _ ho hx, hk, hmutn _ _ ho hx⟩
      txl := by show (M.txs ++ [t]).length = (M.recs ++ [r]).length; simp [h.txl]
      txns := by show (M.recs ++ [r]).length ≤ 150; rw [hl]; exact hlen
      ends1 := by show M.ends.length ≤ (M.recs ++ [r]).length; rw [hl]; have := h.ends1; omega }

/-- How much room is taken has turned. -/
theorem sAt_taken {w w' : World} {M : SM} (h : SAt w M) {n : Nat} (h2 : RowAt w' M.b 64 { M with taken := n }.row) (hc : Chg w w' (· = M.b)) : SAt w' { M with taken := n } := by
  obtain ⟨⟨b1, b2, b3, b4, b5⟩, _⟩ := nodup_parts h.nodup
  exact
    { h with
      row := h2
      rc := h.rc.chg hc (fun k hk hy => b1 (hy ▸ hk))
      en := h.en.chg hc (fun k hk hy => b2 (hy ▸ hk))
      mO := h.mO.chg hc (fun k hk hy => b3 (hy ▸ hk))
      dO := h.dO.chg hc (fun k hk hy => b4 (hy ▸ hk))
      maps := fun i m hi => (h.maps i m hi).chg hc (fun hy => b5 (hy ▸ h.g_base hi))
      vers := fun k hkk => (h.vers k hkk).chg hc (fun x hx hy => (h.ver_not hkk hx).1 hy)
      txn := fun i r t hr ht he => by
        obtain ⟨a1, a2, a3⟩ := h.txn i r t hr ht he
        exact ⟨a1.chg hc (fun x hx hy => a3 x hx (SM.mem_mut.2 (Or.inl (by rw [hy]; simp [SM.base])))), a2, a3⟩ }

end Go.Proofs.Ytlheloogmgmjnaa

namespace Go.Proofs.Ytlheloogmgmjnaa
open Go.RowKit

theorem mutS_withRec {M : SM} {r : PRec} {t : Tx} {s : Sl} {N : Nat} (hb : ∀ k ∈ s.blk, k ∈ M.rcS.blk ∨ N ≤ k) : ∀ i, i < N → i ∈ (M.withRec r t s).mut → i ∈ M.mut := by
  intro i hi h
  rcases SM.mem_mut.1 h with h1 | ⟨k, hk, h1⟩
  · refine SM.mem_mut.2 (Or.inl ?_)
    simp only [SM.base, SM.withRec, List.mem_cons, List.mem_append] at h1 ⊢
    rcases h1 with h1 | h1 | h1
    · exact Or.inl h1
    · rcases hb i h1 with h2 | h2
      · exact Or.inr (Or.inl h2)
      · omega
    · exact Or.inr (Or.inr h1)
  · exact SM.mem_mut.2 (Or.inr ⟨k, hk, h1⟩)

theorem foot_withRec {M : SM} {r : PRec} {t : Tx} {s : Sl} {N : Nat} (hb : ∀ k ∈ s.blk, k ∈ M.rcS.blk ∨ N ≤ k) (hr : ∀ k ∈ r.h.blks, N ≤ k) : ∀ k ∈ (M.withRec r t s).foot, k ∈ M.foot ∨ N ≤ k := by
  intro k hk
  by_cases hN : N ≤ k
  · exact Or.inr hN
  · refine Or.inl (SM.mem_foot.2 ?_)
    rcases SM.mem_foot.1 hk with h1 | ⟨x, hx, he, h1⟩
    · exact Or.inl (mutS_withRec hb k (by omega) h1)
    · have hx' : x ∈ M.recs ++ [r] := hx
      rcases List.mem_append.1 hx' with h2 | h2
      · exact Or.inr ⟨x, h2, he, h1⟩
      · rw [List.mem_singleton.1 h2] at h1
        exact absurd (hr k h1) hN
theorem foot_withEnd {M : SM} {s : Sl} {N : Nat} (hb : ∀ k ∈ s.blk, k ∈ M.enS.blk ∨ N ≤ k) : ∀ k ∈ (M.withEnd s).foot, k ∈ M.foot ∨ N ≤ k := by
  intro k hk
  rcases SM.mem_foot.1 hk with h1 | h1
  · rcases SM.mem_mut.1 h1 with h1 | h1
    · simp only [SM.base, SM.withEnd, List.mem_cons, List.mem_append] at h1
      rcases h1 with h1 | h1 | h1 | h1
      · exact Or.inl (SM.mem_foot.2 (Or.inl (SM.mem_mut.2 (Or.inl (by simp [SM.base, h1])))))
      · exact Or.inl (SM.mem_foot.2 (Or.inl (SM.mem_mut.2 (Or.inl (by simp [SM.base, h1])))))
      · rcases hb k h1 with h2 | h2
        · exact Or.inl (SM.mem_foot.2 (Or.inl (SM.mem_mut.2 (Or.inl (by simp [SM.base, h2])))))
        · exact Or.inr h2
      · refine Or.inl (SM.mem_foot.2 (Or.inl (SM.mem_mut.2 (Or.inl ?_))))
        simp only [SM.base, List.mem_cons, List.mem_append]
        exact Or.inr (Or.inr (Or.inr h1))
    · exact Or.inl (SM.mem_foot.2 (Or.inl (SM.mem_mut.2 (Or.inr h1))))
  · exact Or.inl (SM.mem_foot.2 (Or.inr h1))

set_option maxHeartbeats 4000000 in
set_option maxRecDepth 100000 in
theorem sAdd_any (M : SM) (w : World) (h : SAt w M) (hd : TH) (t : Tx) (hx : TxAt w hd t) (hn : hd.nilOk) (hm : M.recs.length < 150) (hck : checkN t = 0) (hcl : M.closed ≤ M.recs.length) (hel : M.ends.length ≤ M.closed) :
    Calls Try.prog 47 #[.pointer (some ⟨M.b, 2, none⟩), .agg hd.cells] w fun e w' => ∃ (r : PRec) (s : Sl) (M' : SM), e = .returned (.int .i64 (M.recs.length + 1 : Nat)) ∧ SAt w' M' ∧ r.ended = false ∧
      (M.recs.length + 1 - M.closed = 6 → ∃ s2, M' = (M.withRec r t s).withEnd s2) ∧ (¬ M.recs.length + 1 - M.closed = 6 → M' = M.withRec r t s) ∧ Chg w w' (fun k => k ∈ M.mut) ∧ (∀ k ∈ M'.foot, k ∈ M.foot ∨ w.heap.size ≤ k) := by
  obtain ⟨j0, gi, gz0, gz1, gz2⟩ := info_parts Try.info102
  have CO := hide (fun wx (hb : Below w.heap.size w wx) => icopyOf_any hd t wx (hx.below hb) hn)
  obtain ⟨⟨ra, rn, rc⟩, ⟨wa, wn, wc⟩, ⟨ca, cn, cc⟩⟩ := hd
  simp only [TH.cells] at CO
  show Calls Try.prog 47 #[.pointer (some ⟨M.b, 2, none⟩), .agg #[.slice ra rn rc, .slice wa wn wc, .slice ca cn cc]] w _
  have HR := hide h
  have hbl := h.row.lt
  have MM := hide (show M.rcS.n + 1 ≤ maxLen by rw [h.rcn]; unfold maxLen; omega)
  have QQ := hide (show (M.rcS.n + 1) * 96 ≤ 140737488355328 by rw [h.rcn]; omega)
  have NB := hide ((nodup_parts h.nodup).1.1)
  have RL := hide h.rc.blk_lt
  have A0 := hide (rowAt_alloc w [.slice ra rn rc, .slice wa wn wc, .slice ca cn cc] 25)
  have B0 := hide (below_alloc1 w (.cells #[.slice ra rn rc, .slice wa wn wc, .slice ca cn cc] 25))
  clear h hx hn
  go_enter Try.func47, Try.ntmps47
  go_wp2
  change Hid (RowAt (w.alloc (.cells #[.slice ra rn rc, .slice wa wn wc, .slice ca cn cc] 25)) w.heap.size 25 [.slice ra rn rc, .slice wa wn wc, .slice ca cn cc]) at A0
  generalize w.alloc (.cells #[.slice ra rn rc, .slice wa wn wc, .slice ca cn cc] 25) = W at *
  have HW := hide (HR.out.below B0.out)
  have KL : Hid (∀ w', Below W.heap.size W w' → (w'.cell? ⟨M.b, 2, none⟩ = some (.slice M.rcS.a M.rcS.n M.rcS.c) ∧ w'.cell? ⟨w.heap.size, 0, none⟩ = some (.slice ra rn rc) ∧ w'.cell? ⟨w.heap.size, 1, none⟩ = some (.slice wa wn wc) ∧ w'.cell? ⟨w.heap.size, 2, none⟩ = some (.slice ca cn cc))) := hide (fun w' hB =>
    ⟨(HW.out.row.below' hB).cell' (i := 2) rfl, (A0.out.below' hB).cell' (i := 0) rfl, (A0.out.below' hB).cell' (i := 1) rfl, (A0.out.below' hB).cell' (i := 2) rfl⟩)
  have hnw : Hid (w.heap.size ∉ M.rcS.blk) := hide (fun hk => by have := RL.out _ hk; omega)
  have KS : Hid (∀ wy w', Below W.heap.size W wy → Chg wy w' (fun k => k ∈ M.rcS.blk) → (w'.cell? ⟨M.b, 2, none⟩ = some (.slice M.rcS.a M.rcS.n M.rcS.c) ∧ w'.cell? ⟨w.heap.size, 0, none⟩ = some (.slice ra rn rc) ∧ w'.cell? ⟨w.heap.size, 1, none⟩ = some (.slice wa wn wc) ∧ w'.cell? ⟨w.heap.size, 2, none⟩ = some (.slice ca cn cc))) := hide (fun wy w' hB hC =>
    ⟨cell_chg hC (KL.out _ hB).1 NB.out, cell_chg hC (KL.out _ hB).2.1 hnw.out, cell_chg hC (KL.out _ hB).2.2.1 hnw.out, cell_chg hC (KL.out _ hB).2.2.2 hnw.out⟩)
  refine wp_region_L (L := #[true, true, true, true, true, true, true, true, true, true, false, false, false]) (S := (fun w' => w'.cell? ⟨M.b, 2, none⟩ = some (.slice M.rcS.a M.rcS.n M.rcS.c) ∧ w'.cell? ⟨w.heap.size, 0, none⟩ = some (.slice ra rn rc) ∧ w'.cell? ⟨w.heap.size, 1, none⟩ = some (.slice wa wn wc) ∧ w'.cell? ⟨w.heap.size, 2, none⟩ = some (.slice ca cn cc))) (by kernel_rfl) ?_
  have D0 : Hid (Below W.heap.size W W.drew) := hide (Below.refl _ _).drew
  have hHeld := KL.out _ D0.out
  refine wpL_take (i := 0) (v := ?_) rfl (by kernel_rfl) (by kernel_rfl) (by kernel_rfl) (by kernel_rfl) (fun _ _ _ h => h) (by rfl) ?_ (by assumption) ?_
  rotate_left
  · intro w hSw; (try dsimp only at hSw); (go_simp <;> with_reducible rfl)
  try simp only [List.getElem_toArray, List.getElem_cons_zero, Act.put, List.setIfInBounds_toArray, List.set_cons_zero, List.set_cons_succ]
  refine wpL_take (i := 1) (v := ?_) rfl (by kernel_rfl) (by kernel_rfl) (by kernel_rfl) (by kernel_rfl) (fun _ _ _ h => h) (by rfl) ?_ (by assumption) ?_
  rotate_left
  · intro w hSw; (try dsimp only at hSw); (go_simp <;> with_reducible rfl)
  try simp only [List.getElem_toArray, List.getElem_cons_zero, List.getElem_cons_succ, Act.put, List.setIfInBounds_toArray, List.set_cons_zero, List.set_cons_succ]
  refine wpL_take (i := 2) (v := ?_) rfl (by kernel_rfl) (by kernel_rfl) (by kernel_rfl) (by kernel_rfl) (fun _ _ _ h => h) (by rfl) ?_ (by assumption) ?_
  rotate_left
  · intro w hSw; (try dsimp only at hSw); (go_simp <;> with_reducible rfl)
  try simp only [List.getElem_toArray, List.getElem_cons_zero, List.getElem_cons_succ, Act.put, List.setIfInBounds_toArray, List.set_cons_zero, List.set_cons_succ]
  refine wpL_take (i := 3) (v := ?_) rfl (by kernel_rfl) (by kernel_rfl) (by kernel_rfl) (by kernel_rfl) (fun _ _ _ h => h) (by rfl) ?_ (by assumption) ?_
  rotate_left
  · intro w hSw; (try dsimp only at hSw); (go_simp <;> with_reducible rfl)
  try simp only [List.getElem_toArray, List.getElem_cons_zero, List.getElem_cons_succ, Act.put, List.setIfInBounds_toArray, List.set_cons_zero, List.set_cons_succ]
  refine wpL_take (i := 4) (v := ?_) rfl (by kernel_rfl) (by kernel_rfl) (by kernel_rfl) (by kernel_rfl) (fun _ _ _ h => h) (by rfl) ?_ (by assumption) ?_
  rotate_left
  · intro w hSw; (try dsimp only at hSw); (go_simp <;> with_reducible rfl)
  try simp only [List.getElem_toArray, List.getElem_cons_zero, List.getElem_cons_succ, Act.put, List.setIfInBounds_toArray, List.set_cons_zero, List.set_cons_succ]
  refine wpL_take (i := 5) (v := ?_) rfl (by kernel_rfl) (by kernel_rfl) (by kernel_rfl) (by kernel_rfl) (fun _ _ _ h => h) (by rfl) ?_ (by assumption) ?_
  rotate_left
  · intro w hSw; (try dsimp only at hSw); (go_simp <;> with_reducible rfl)
  try simp only [List.getElem_toArray, List.getElem_cons_zero, List.getElem_cons_succ, Act.put, List.setIfInBounds_toArray, List.set_cons_zero, List.set_cons_succ]
  refine wpL_one (n := 6) (by kernel_rfl) rfl (by rfl) (fun K hK => ?_)
  clear hHeld
  simp only [List.getElem_toArray, List.getElem_cons_zero, List.getElem_cons_succ]
  go_simp
  refine (CO.out _ (below_on B0.out D0.out)).mono ?_
  rintro e v6 ⟨h', rfl, ho6, hn6, hb6⟩
  have O6 := hide ho6
  have N6 := hide (fun k (hk : k ∈ h'.blks) => Nat.le_trans (below_on B0.out D0.out).size (hn6 k hk))
  clear ho6 hn6
  have D6 := hide (below_on D0.out hb6)
  have hHeld := KL.out _ D6.out
  obtain ⟨⟨ra', rn', rc'⟩, ⟨wa', wn', wc'⟩, ⟨ca', cn', cc'⟩⟩ := h'
  simp only
  refine hK.out _ _ hHeld ?_
  clear hK K hb6 CO
  try simp only [List.getElem_toArray, List.getElem_cons_zero, List.getElem_cons_succ, Act.put, List.setIfInBounds_toArray, List.set_cons_zero, List.set_cons_succ]
  refine wpL_take (i := 7) (v := ?_) rfl (by kernel_rfl) (by kernel_rfl) (by kernel_rfl) (by kernel_rfl) (fun _ _ _ h => h) (by rfl) ?_ (by assumption) ?_
  rotate_left
  · intro w hSw; (try dsimp only at hSw); (go_simp <;> with_reducible rfl)
  try simp only [List.getElem_toArray, List.getElem_cons_zero, List.getElem_cons_succ, Act.put, List.setIfInBounds_toArray, List.set_cons_zero, List.set_cons_succ]
  refine wpL_one (n := 8) (by kernel_rfl) rfl (by rfl) (fun K hK => ?_)
  clear hHeld
  simp only [List.getElem_toArray, List.getElem_cons_zero, List.getElem_cons_succ]
  go_simp
  have P8 := hide (rowAt_alloc v6 (PRec.row ⟨⟨⟨ra', rn', rc'⟩, ⟨wa', wn', wc'⟩, ⟨ca', cn', cc'⟩⟩, false, false, 0⟩) 102)
  have D8 := hide (below_on D6.out (below_alloc1 v6 (.cells (PRec.row ⟨⟨⟨ra', rn', rc'⟩, ⟨wa', wn', wc'⟩, ⟨ca', cn', cc'⟩⟩, false, false, 0⟩).toArray 102)))
  have hHeld := KL.out _ D8.out
  refine hK.out _ _ hHeld ?_
  clear hK K
  try simp only [List.getElem_toArray, List.getElem_cons_zero, List.getElem_cons_succ, Act.put, List.setIfInBounds_toArray, List.set_cons_zero, List.set_cons_succ]
  refine wpL_one (n := 9) (by kernel_rfl) rfl (by rfl) (fun K hK => ?_)
  clear hHeld
  simp only [List.getElem_toArray, List.getElem_cons_zero, List.getElem_cons_succ]
  refine wp_append_sl (.tmp 9) (.tmp 13) 58 rfl 102 j0 (.agg zeroRec.toArray) 6 96 Try.underlying58 gi gz0 gz1 gz2 rfl (by decide) M.rcS (M.recs.flatMap PRec.row) rfl (HW.out.rc.below D8.out) (some ⟨v6.heap.size, 0, none⟩) 1 1 (PRec.row ⟨⟨⟨ra', rn', rc'⟩, ⟨wa', wn', wc'⟩, ⟨ca', cn', cc'⟩⟩, false, false, 0⟩) rfl rfl (by simp) (fun ad had j u hu => by cases had; rw [addr_add, Nat.zero_add]; exact P8.out.cell' hu) (recRow_oneCell _) MM.out QQ.out ?_
  intro s1 w1 ow1 sn1 ch1 bl1
  have OW := hide ow1; have SN := hide sn1; have CH := hide ch1; have BL := hide bl1
  have f2 := (HW.out.row.below' D8.out).chg ch1 NB.out
  have hHeld := KS.out _ _ D8.out ch1
  refine hK.out _ _ hHeld ?_
  clear hK K ow1 sn1 ch1 bl1
  try simp only [Act.put, List.setIfInBounds_toArray, List.set_cons_zero, List.set_cons_succ]
  refine wpL_leaf _ (by kernel_rfl) ?_
  refine wpAny_one (n := 10) (by kernel_rfl) rfl (by rfl) (fun K hK => ?_)
  simp only [List.getElem_toArray, List.getElem_cons_zero, List.getElem_cons_succ]
  go_simp
  refine hK.out _ _ ?_
  clear hK K
  try simp only [List.setIfInBounds_toArray, List.set_cons_zero, List.set_cons_succ]
  refine wpAny_one (n := 11) (by kernel_rfl) rfl (by rfl) (fun K hK => ?_)
  simp only [List.getElem_toArray, List.getElem_cons_zero, List.getElem_cons_succ]
  go_simp
  refine hK.out _ _ ?_
  clear hK K
  try simp only [List.setIfInBounds_toArray, List.set_cons_zero, List.set_cons_succ]
  refine wpAny_last (n := 12) (by kernel_rfl) (by kernel_rfl) rfl (by rfl) ?_
  have g2 := f2.cell' (i := 2) (v := .slice M.rcS.a M.rcS.n M.rcS.c) rfl
  have gf := f2.frozen 2
  clear hHeld
  simp only [List.getElem_toArray, List.getElem_cons_zero, List.getElem_cons_succ]
  go_simp
  have h8 := HR.out.below (below_on B0.out D8.out)
  have hbb : ∀ k ∈ s1.blk, k ∈ M.rcS.blk ∨ (v6.alloc (.cells (PRec.row ⟨⟨⟨ra', rn', rc'⟩, ⟨wa', wn', wc'⟩, ⟨ca', cn', cc'⟩⟩, false, false, 0⟩).toArray 102)).heap.size ≤ k := fun k hk => (BL.out k hk).imp id (fun h => by rw [h]; exact Nat.le_refl _)
  have hbw : ∀ k ∈ s1.blk, k ∈ M.rcS.blk ∨ w.heap.size ≤ k := fun k hk => (hbb k hk).imp id (fun h => Nat.le_trans (below_on B0.out D8.out).size h)
  obtain ⟨q1, q2⟩ := sAt_withRec h8 (by omega) (r := ⟨⟨⟨ra', rn', rc'⟩, ⟨wa', wn', wc'⟩, ⟨ca', cn', cc'⟩⟩, false, false, 0⟩) (t := t) OW.out SN.out CH.out hbb (O6.out.chg (Chg.of_below (below_alloc1 _ _) (fun _ => False)) (fun _ _ => id)) hck (fun k hk hm => by have h1 := N6.out k hk; have h2 := HR.out.mut_lt k hm; omega)
  have q3 := (Chg.of_below (below_on B0.out D8.out) (fun k => k ∈ M.mut)).trans q2
  generalize hre : (⟨⟨⟨ra', rn', rc'⟩, ⟨wa', wn', wc'⟩, ⟨ca', cn', cc'⟩⟩, false, false, 0⟩ : PRec) = r at q1
  have HRE := hide (show r.ended = false by rw [← hre])
  have NR := hide (show ∀ k ∈ r.h.blks, w.heap.size ≤ k by rw [← hre]; exact N6.out)
  have RR := hide q1; have CC := hide q3
  clear hre
  have hsn : s1.n = M.recs.length + 1 := by rw [SN.out, HR.out.rcn]
  have c2 : (w1.setCell ⟨M.b, 2, none⟩ (.slice s1.a s1.n s1.c)).cell? ⟨M.b, 2, none⟩ = some (.slice s1.a s1.n s1.c) := q1.row.cell' (i := 2) rfl
  have BLS := hide hbw
  clear q1 q2 q3 h8 hbb hbw O6 N6 OW SN CH BL f2 g2 gf P8 D8 D6 D0 KL KS HW A0 B0 NB RL hnw MM QQ
  generalize w1.setCell ⟨M.b, 2, none⟩ (.slice s1.a s1.n s1.c) = wF at *
  rw [hsn] at c2
  clear hsn
  have OP : Hid (Calls Try.prog 69 #[.pointer (some ⟨M.b, 2, none⟩)] wF fun e w' => e = .returned (.int .i64 ((M.recs ++ [r]).length - M.closed : Nat)) ∧ ∃ n, w' = wF.drewN n) := hide (iopen_gen (M.withRec r t s1) wF RR.out (by show M.closed ≤ (M.recs ++ [r]).length; simp; omega))
  rw [show (M.recs ++ [r]).length = M.recs.length + 1 by simp] at OP
  go_wp2_with fail
  refine OP.out.mono ?_
  rintro e w5 ⟨rfl, nq, rfl⟩
  have R5 := hide (RR.out.below (below_drewN (Below.refl _ _) nq))
  have C5 := hide (Chg.trans CC.out (Chg.drewN wF nq _))
  have d2 : (wF.drewN nq).cell? ⟨M.b, 2, none⟩ = some (.slice s1.a (M.recs.length + 1) s1.c) := c2
  clear c2 RR CC OP
  generalize wF.drewN nq = W5 at *
  by_cases h6 : M.recs.length + 1 - M.closed = 6
  · have CL := hide (sClose_yes (M.withRec r t s1) W5 R5.out (by show M.closed ≤ (M.recs ++ [r]).length; simp; omega) (by show M.ends.length + 1 ≤ (M.recs ++ [r]).length; simp; omega) (by show M.closed < (M.recs ++ [r]).length; simp; omega))
    change Hid (Calls Try.prog 48 #[.pointer (some ⟨M.b, 2, none⟩)] W5 fun e w' => (∃ v, e = .returned v) ∧ ∃ s, SAt w' ((M.withRec r t s1).withEnd s) ∧ Chg W5 w' (fun k => k ∈ (M.withRec r t s1).mut) ∧ (∀ k ∈ s.blk, k ∈ M.enS.blk ∨ W5.heap.size ≤ k)) at CL
    have MU := hide (mutS_withRec (M := M) (r := r) (t := t) BLS.out)
    have HF6 := hide h6
    rw [h6]
    clear h6
    go_wp2_with fail
    refine CL.out.mono ?_
    rintro e w6 ⟨⟨v, rfl⟩, s2, hp, hc, hf⟩
    have e2 : w6.cell? ⟨M.b, 2, none⟩ = some (.slice s1.a s1.n s1.c) := hp.row.cell' (i := 2) rfl
    rw [show s1.n = M.recs.length + 1 by have := R5.out.rcn; simpa [SM.withRec] using this] at e2
    have HP := hide hp; have HC := hide hc; have HF := hide hf
    clear hp hc hf CL d2
    go_wp2
    go_ret
    exact ⟨r, s1, _, ret_int (by simp), HP.out, HRE.out, fun _ => ⟨s2, rfl⟩, fun h => absurd HF6.out h, C5.out.trans' HC.out MU.out, fun k hk => (foot_withEnd (M := M.withRec r t s1) HF.out k hk).elim (foot_withRec BLS.out NR.out k) (fun h => Or.inr (Nat.le_trans C5.out.size h))⟩
  · obtain ⟨O, hO⟩ : ∃ O, O = M.recs.length + 1 - M.closed := ⟨_, rfl⟩
    have HF6 := hide h6
    have h6' : ¬ ((O : Int) = 6) := by omega
    rw [← hO]
    clear hO h6
    go_wp2
    go_ret
    exact ⟨r, s1, _, ret_int (by simp), R5.out, HRE.out, fun h => absurd h HF6.out, fun _ => rfl, C5.out, foot_withRec BLS.out NR.out⟩

end Go.Proofs.Ytlheloogmgmjnaa

namespace Go.Proofs.Ytlheloogmgmjnaa
open Go.RowKit

/-- Why a transaction may not come in. -/
def SM.refusal (M : SM) (t : Tx) : Int := if checkN t ≠ 0 then checkN t else if 150 ≤ M.recs.length then 6 else if M.room < M.taken + t.w.length then 7 else 0

set_option maxHeartbeats 2000000 in
set_option maxRecDepth 100000 in
theorem srefusal_any (M : SM) (w : World) (h : SAt w M) (hr5 : M.room ≤ 500) (ht5 : M.taken ≤ M.room) (hd : TH) (t : Tx) (hx : TxAt w hd t) :
    Calls Try.prog 46 #[.pointer (some ⟨M.b, 0, none⟩), .agg hd.cells] w fun e w' => e = .returned (.int .i64 (M.refusal t)) ∧ Below w.heap.size w w' := by
  have SC := hide (fun wx (hb : Below w.heap.size w wx) => sCheck_any hd t wx (hx.below hb))
  have TN := hide (fun wx (hb : Below w.heap.size w wx) => iTxns_gen wx (h.below hb).inAt)
  have H0 := hide (fun wx (hb : Below w.heap.size w wx) => (h.below hb).row.cell' (i := 0) (v := .int .i64 M.room) rfl)
  have H1 := hide (fun wx (hb : Below w.heap.size w wx) => (h.below hb).row.cell' (i := 1) (v := .int .i64 M.taken) rfl)
  have hwl := hx.wl
  have hwb := hx.wb
  clear h hx
  obtain ⟨⟨ra, rn, rc⟩, ⟨wa, wn, wc⟩, ⟨ca, cn, cc⟩⟩ := hd
  simp only [TH.cells] at SC
  simp only at hwl hwb
  show Calls Try.prog 46 #[.pointer (some ⟨M.b, 0, none⟩), .agg #[.slice ra rn rc, .slice wa wn wc, .slice ca cn cc]] w _
  subst hwl
  go_enter Try.func46, Try.ntmps46
  go_wp2_with fail
  refine (SC.out _ (below_alloc1 _ _)).mono ?_
  rintro e w1 ⟨rfl, hb1⟩
  have A1 := hide ((rowAt_alloc w [.slice ra rn rc, .slice wa t.w.length wc, .slice ca cn cc] 25).below' hb1)
  have B1 := hide (below_alloc hb1)
  clear hb1 SC
  by_cases hc : checkN t = 0
  · rw [hc]
    have TN1 := hide (TN.out w1 B1.out)
    by_cases hm : 150 ≤ M.recs.length
    · have hm' : (150 : Int) ≤ (M.recs.length : Int) := by omega
      have RF := hide (show M.refusal t = 6 by simp [SM.refusal, hc, hm])
      go_wp2_with (go_at_call 31; refine TN1.out.mono ?_; rintro e w' ⟨rfl, rfl⟩)
      go_ret
      exact ⟨ret_int RF.out.symm, B1.out⟩
    · have hm' : ¬ (150 : Int) ≤ (M.recs.length : Int) := by omega
      have c0 := H0.out w1 B1.out
      have c1 := H1.out w1 B1.out
      have a1 := A1.out.cell' (i := 1) rfl
      by_cases hf : M.room < M.taken + t.w.length
      · have hf' : (M.room : Int) < (M.taken : Int) + (t.w.length : Int) := by omega
        have RF := hide (show M.refusal t = 7 by simp [SM.refusal, hc, hm, hf])
        clear hc hm hf TN H0 H1
        go_wp2_with (go_at_call 31; refine TN1.out.mono ?_; rintro e w' ⟨rfl, rfl⟩)
        go_quiet (fail)
        go_wp2
        go_ret
        exact ⟨ret_int RF.out.symm, below_drewN B1.out _⟩
      · have hf' : ¬ (M.room : Int) < (M.taken : Int) + (t.w.length : Int) := by omega
        have RF := hide (show M.refusal t = 0 by simp [SM.refusal, hc, hm, hf])
        clear hc hm hf TN H0 H1
        go_wp2_with (go_at_call 31; refine TN1.out.mono ?_; rintro e w' ⟨rfl, rfl⟩)
        go_quiet (fail)
        go_wp2
        go_ret
        exact ⟨ret_int RF.out.symm, below_drewN B1.out _⟩
  · have RF := hide (show M.refusal t = checkN t by simp [SM.refusal, hc])
    have he : (checkN t != 0) = true := by rw [bne_iff_ne]; exact hc
    generalize checkN t = c at *
    clear TN H0 H1 hc
    go_wp2
    go_ret
    exact ⟨ret_int RF.out.symm, B1.out⟩

def SM.withTaken (M : SM) (n : Nat) : SM := { M with taken := M.taken + n }

theorem sAt_withTaken {w : World} {M : SM} (h : SAt w M) {n : Nat} {v : Value} (hv : v = .int .i64 (M.taken + n : Nat)) :
    SAt (w.setCell ⟨M.b, 1, none⟩ v) (M.withTaken n) ∧ Chg w (w.setCell ⟨M.b, 1, none⟩ v) (· = M.b) := by
  subst hv
  have hc : Chg w (w.setCell ⟨M.b, 1, none⟩ (.int .i64 (M.taken + n : Nat))) (· = M.b) := Chg.setCell w ⟨M.b, 1, none⟩ _
  exact ⟨sAt_taken h (h.row.set 1 _) hc, hc⟩

set_option maxHeartbeats 4000000 in
set_option maxRecDepth 100000 in
theorem sSubmit_ok (M : SM) (w : World) (h : SAt w M) (hr5 : M.room ≤ 500) (ht5 : M.taken ≤ M.room) (hd : TH) (t : Tx) (hx : TxAt w hd t) (hn : hd.nilOk) (hap : ∀ k ∈ hd.blks, k ≠ M.b) (hcl : M.closed ≤ M.recs.length) (hel : M.ends.length ≤ M.closed) (hc : M.refusal t = 0) :
    Calls Try.prog 25 #[.pointer (some ⟨M.b, 0, none⟩), .agg hd.cells] w fun e w' => ∃ (r : PRec) (s : Sl) (M' : SM), e = .returned (.tuple #[.int .i64 (M.recs.length + 1 : Nat), .int .i64 0]) ∧ SAt w' M' ∧ r.ended = false ∧
      (M.recs.length + 1 - M.closed = 6 → ∃ s2, M' = ((M.withTaken t.w.length).withRec r t s).withEnd s2) ∧ (¬ M.recs.length + 1 - M.closed = 6 → M' = (M.withTaken t.w.length).withRec r t s) ∧ Chg w w' (fun k => k ∈ M.mut) ∧ (∀ k ∈ M'.foot, k ∈ M.foot ∨ w.heap.size ≤ k) := by
  obtain ⟨hm, hf, hck⟩ : M.recs.length < 150 ∧ M.taken + t.w.length ≤ M.room ∧ checkN t = 0 := by
    unfold SM.refusal at hc
    split at hc
    · rename_i h1; exact absurd hc h1
    · split at hc
      · exact absurd hc (by decide)
      · split at hc
        · exact absurd hc (by decide)
        · rename_i h1 _ _; exact ⟨by omega, by omega, by simpa using h1⟩
  have RF := hide (fun wx (hb : Below w.heap.size w wx) => srefusal_any M wx (h.below hb) hr5 ht5 hd t (hx.below hb))
  rw [hc] at RF
  have AD := hide (fun wx (hB : Chg w wx (· = M.b)) (hp : SAt wx (M.withTaken t.w.length)) => sAdd_any (M.withTaken t.w.length) wx hp hd t (hx.chg hB hap) hn (by exact hm) hck (by exact hcl) (by exact hel))
  have HR := hide h
  have hwl := hx.wl
  have hbl := h.row.lt
  clear h hx hn hc hap
  obtain ⟨⟨ra, rn, rc⟩, ⟨wa, wn, wc⟩, ⟨ca, cn, cc⟩⟩ := hd
  simp only [TH.cells] at RF AD
  simp only at hwl
  subst hwl
  show Calls Try.prog 25 #[.pointer (some ⟨M.b, 0, none⟩), .agg #[.slice ra rn rc, .slice wa t.w.length wc, .slice ca cn cc]] w _
  go_enter Try.func25, Try.ntmps25
  go_wp2_with fail
  refine (RF.out _ (below_alloc1 _ _)).mono ?_
  rintro e w1 ⟨rfl, hb1⟩
  have A1 := hide ((rowAt_alloc w [.slice ra rn rc, .slice wa t.w.length wc, .slice ca cn cc] 25).below' hb1)
  have B1 := hide (below_alloc hb1)
  have H1 := hide (HR.out.below B1.out)
  clear hb1 RF
  go_wp2
  have c1 := H1.out.row.cell' (i := 1) (v := .int .i64 M.taken) rfl
  have cf := H1.out.row.frozen 1
  have a1 := A1.out.cell' (i := 1) rfl
  have hne : M.b ≠ w.heap.size := by omega
  have hwrap : IntKind.i64.wrap ((M.taken : Int) + (t.w.length : Int)) = (M.taken : Int) + (t.w.length : Int) := by rw [IntKind.wrap_i64]; omega
  refine wp_region_L (L := #[true, true, true, true, true, true, true, true, false, false, false]) (S := fun w' => w'.cell? ⟨M.b, 1, none⟩ = some (.int .i64 M.taken) ∧ w'.cell? ⟨w.heap.size, 1, none⟩ = some (.slice wa t.w.length wc)) (by kernel_rfl) ?_
  have hHeld : w1.drew.cell? ⟨M.b, 1, none⟩ = some (.int .i64 M.taken) ∧ w1.drew.cell? ⟨w.heap.size, 1, none⟩ = some (.slice wa t.w.length wc) := ⟨c1, a1⟩
  refine wpL_take (i := 0) (v := ?_) rfl (by kernel_rfl) (by kernel_rfl) (by kernel_rfl) (by kernel_rfl) (fun _ _ _ h => h) (by rfl) ?_ (by assumption) ?_
  rotate_left
  · intro w hSw; (try dsimp only at hSw); (go_simp <;> with_reducible rfl)
  try simp only [List.getElem_toArray, List.getElem_cons_zero, Act.put, List.setIfInBounds_toArray, List.set_cons_zero, List.set_cons_succ]
  refine wpL_take (i := 1) (v := ?_) rfl (by kernel_rfl) (by kernel_rfl) (by kernel_rfl) (by kernel_rfl) (fun _ _ _ h => h) (by rfl) ?_ (by assumption) ?_
  rotate_left
  · intro w hSw; (try dsimp only at hSw); (go_simp <;> with_reducible rfl)
  try simp only [List.getElem_toArray, List.getElem_cons_zero, List.getElem_cons_succ, Act.put, List.setIfInBounds_toArray, List.set_cons_zero, List.set_cons_succ]
  refine wpL_take (i := 2) (v := ?_) rfl (by kernel_rfl) (by kernel_rfl) (by kernel_rfl) (by kernel_rfl) (fun _ _ _ h => h) (by rfl) ?_ (by assumption) ?_
  rotate_left
  · intro w hSw; (try dsimp only at hSw); (go_simp <;> with_reducible rfl)
  try simp only [List.getElem_toArray, List.getElem_cons_zero, List.getElem_cons_succ, Act.put, List.setIfInBounds_toArray, List.set_cons_zero, List.set_cons_succ]
  refine wpL_take (i := 3) (v := ?_) rfl (by kernel_rfl) (by kernel_rfl) (by kernel_rfl) (by kernel_rfl) (fun _ _ _ h => h) (by rfl) ?_ (by assumption) ?_
  rotate_left
  · intro w hSw; (try dsimp only at hSw); (go_simp <;> with_reducible rfl)
  try simp only [List.getElem_toArray, List.getElem_cons_zero, List.getElem_cons_succ, Act.put, List.setIfInBounds_toArray, List.set_cons_zero, List.set_cons_succ]
  refine wpL_take (i := 4) (v := ?_) rfl (by kernel_rfl) (by kernel_rfl) (by kernel_rfl) (by kernel_rfl) (fun _ _ _ h => h) (by rfl) ?_ (by assumption) ?_
  rotate_left
  · intro w hSw; (try dsimp only at hSw); (go_simp <;> with_reducible rfl)
  try simp only [List.getElem_toArray, List.getElem_cons_zero, List.getElem_cons_succ, Act.put, List.setIfInBounds_toArray, List.set_cons_zero, List.set_cons_succ]
  refine wpL_take (i := 5) (v := ?_) rfl (by kernel_rfl) (by kernel_rfl) (by kernel_rfl) (by kernel_rfl) (fun _ _ _ h => h) (by rfl) ?_ (by assumption) ?_
  rotate_left
  · intro w hSw; (try dsimp only at hSw); (go_simp <;> with_reducible rfl)
  try simp only [List.getElem_toArray, List.getElem_cons_zero, List.getElem_cons_succ, Act.put, List.setIfInBounds_toArray, List.set_cons_zero, List.set_cons_succ]
  refine wpL_take (i := 6) (v := ?_) rfl (by kernel_rfl) (by kernel_rfl) (by kernel_rfl) (by kernel_rfl) (fun _ _ _ h => h) (by rfl) ?_ (by assumption) ?_
  rotate_left
  · intro w hSw; (try dsimp only at hSw); (go_simp <;> with_reducible rfl)
  try simp only [List.getElem_toArray, List.getElem_cons_zero, List.getElem_cons_succ, Act.put, List.setIfInBounds_toArray, List.set_cons_zero, List.set_cons_succ]
  refine wpL_take (i := 7) (v := ?_) rfl (by kernel_rfl) (by kernel_rfl) (by kernel_rfl) (by kernel_rfl) (fun _ _ _ h => h) (by rfl) ?_ (by assumption) ?_
  rotate_left
  · intro w hSw; (try dsimp only at hSw); (go_simp <;> with_reducible rfl)
  try simp only [List.getElem_toArray, List.getElem_cons_zero, List.getElem_cons_succ, Act.put, List.setIfInBounds_toArray, List.set_cons_zero, List.set_cons_succ]
  refine wpL_leaf _ (by kernel_rfl) ?_
  refine wpAny_one (n := 8) (by kernel_rfl) rfl (by rfl) (fun K hK => ?_)
  simp only [List.getElem_toArray, List.getElem_cons_zero, List.getElem_cons_succ]
  go_simp
  refine hK.out _ _ ?_
  clear hK K
  try simp only [List.setIfInBounds_toArray, List.set_cons_zero, List.set_cons_succ]
  refine wpAny_one (n := 9) (by kernel_rfl) rfl (by rfl) (fun K hK => ?_)
  simp only [List.getElem_toArray, List.getElem_cons_zero, List.getElem_cons_succ]
  go_simp
  refine hK.out _ _ ?_
  clear hK K
  try simp only [List.setIfInBounds_toArray, List.set_cons_zero, List.set_cons_succ]
  refine wpAny_last (n := 10) (by kernel_rfl) (by kernel_rfl) rfl (by rfl) ?_
  clear hHeld
  simp only [List.getElem_toArray, List.getElem_cons_zero, List.getElem_cons_succ]
  go_simp
  obtain ⟨q1, q2⟩ := sAt_withTaken H1.out (n := t.w.length) (v := .int .i64 ((M.taken : Int) + t.w.length)) (by simp)
  have P1 := hide (q1.below (below_drewN (Below.refl _ _) 1))
  have C1 := hide (((Chg.of_below B1.out (· = M.b)).trans q2).drew)
  have A2 := hide (A1.out.chg q2 (by show ¬ w.heap.size = M.b; omega)).drew
  clear q1 q2 c1 cf a1 A1 H1 B1
  go_wp2
  change Hid (SAt (w1.setCell ⟨M.b, 1, none⟩ (.int .i64 ((M.taken : Int) + t.w.length))).drew (M.withTaken t.w.length)) at P1
  generalize (w1.setCell ⟨M.b, 1, none⟩ (.int .i64 ((M.taken : Int) + t.w.length))).drew = W at *
  have KA : Hid (∀ w', Chg W w' (fun k => k ∈ M.mut) → (w'.cell? ⟨w.heap.size, 0, none⟩ = some (.slice ra rn rc) ∧ w'.cell? ⟨w.heap.size, 1, none⟩ = some (.slice wa t.w.length wc) ∧ w'.cell? ⟨w.heap.size, 2, none⟩ = some (.slice ca cn cc))) := hide (fun w' hC => by
    have hnm : w.heap.size ∉ M.mut := fun hk => by have := HR.out.mut_lt w.heap.size hk; omega
    have r := A2.out.chg hC hnm
    exact ⟨r.cell' (i := 0) rfl, r.cell' (i := 1) rfl, r.cell' (i := 2) rfl⟩)
  have AD1 := hide (AD.out W.drew C1.out.drew (P1.out.below (below_drewN (Below.refl _ _) 1)))
  clear AD
  refine wp_region_L (L := #[true, true, true, true, true, true, true]) (S := fun w' => w'.cell? ⟨w.heap.size, 0, none⟩ = some (.slice ra rn rc) ∧ w'.cell? ⟨w.heap.size, 1, none⟩ = some (.slice wa t.w.length wc) ∧ w'.cell? ⟨w.heap.size, 2, none⟩ = some (.slice ca cn cc)) (by kernel_rfl) ?_
  have hHeld := KA.out W.drew ((Chg.refl _ _).drew)
  refine wpL_take (i := 0) (v := ?_) rfl (by kernel_rfl) (by kernel_rfl) (by kernel_rfl) (by kernel_rfl) (fun _ _ _ h => h) (by rfl) ?_ (by assumption) ?_
  rotate_left
  · intro w hSw; (try dsimp only at hSw); (go_simp <;> with_reducible rfl)
  try simp only [List.getElem_toArray, List.getElem_cons_zero, Act.put, List.setIfInBounds_toArray, List.set_cons_zero, List.set_cons_succ]
  refine wpL_take (i := 1) (v := ?_) rfl (by kernel_rfl) (by kernel_rfl) (by kernel_rfl) (by kernel_rfl) (fun _ _ _ h => h) (by rfl) ?_ (by assumption) ?_
  rotate_left
  · intro w hSw; (try dsimp only at hSw); (go_simp <;> with_reducible rfl)
  try simp only [List.getElem_toArray, List.getElem_cons_zero, List.getElem_cons_succ, Act.put, List.setIfInBounds_toArray, List.set_cons_zero, List.set_cons_succ]
  refine wpL_take (i := 2) (v := ?_) rfl (by kernel_rfl) (by kernel_rfl) (by kernel_rfl) (by kernel_rfl) (fun _ _ _ h => h) (by rfl) ?_ (by assumption) ?_
  rotate_left
  · intro w hSw; (try dsimp only at hSw); (go_simp <;> with_reducible rfl)
  try simp only [List.getElem_toArray, List.getElem_cons_zero, List.getElem_cons_succ, Act.put, List.setIfInBounds_toArray, List.set_cons_zero, List.set_cons_succ]
  refine wpL_take (i := 3) (v := ?_) rfl (by kernel_rfl) (by kernel_rfl) (by kernel_rfl) (by kernel_rfl) (fun _ _ _ h => h) (by rfl) ?_ (by assumption) ?_
  rotate_left
  · intro w hSw; (try dsimp only at hSw); (go_simp <;> with_reducible rfl)
  try simp only [List.getElem_toArray, List.getElem_cons_zero, List.getElem_cons_succ, Act.put, List.setIfInBounds_toArray, List.set_cons_zero, List.set_cons_succ]
  refine wpL_one (n := 4) (by kernel_rfl) rfl (by rfl) (fun K hK => ?_)
  clear hHeld
  simp only [List.getElem_toArray, List.getElem_cons_zero, List.getElem_cons_succ]
  go_simp
  refine AD1.out.mono ?_
  rintro e w6 ⟨r, s, M', rfl, hp, hre, h6, h7, hc6, hf6⟩
  have HP := hide hp; have HRE := hide hre; have H6 := hide h6; have H7 := hide h7; have HC := hide hc6; have HF6 := hide (show ∀ k ∈ M'.foot, k ∈ M.foot ∨ W.drew.heap.size ≤ k from hf6)
  have hHeld := KA.out w6 ((Chg.refl W (fun k => k ∈ M.mut)).drew.trans hc6)
  refine hK.out _ _ hHeld ?_
  clear hK K hp hre h6 h7 hc6 hf6 AD1 KA
  try simp only [List.getElem_toArray, List.getElem_cons_zero, List.getElem_cons_succ, Act.put, List.setIfInBounds_toArray, List.set_cons_zero, List.set_cons_succ]
  refine wpL_take (i := 5) (v := ?_) rfl (by kernel_rfl) (by kernel_rfl) (by kernel_rfl) (by kernel_rfl) (fun _ _ _ h => h) (by rfl) ?_ (by assumption) ?_
  rotate_left
  · intro w hSw; (try dsimp only at hSw); (go_simp <;> with_reducible rfl)
  try simp only [List.getElem_toArray, List.getElem_cons_zero, List.getElem_cons_succ, Act.put, List.setIfInBounds_toArray, List.set_cons_zero, List.set_cons_succ]
  refine wpL_take (i := 6) (v := ?_) rfl (by kernel_rfl) (by kernel_rfl) (by kernel_rfl) (by kernel_rfl) (fun _ _ _ h => h) (by rfl) ?_ (by assumption) ?_
  rotate_left
  · intro w hSw; (try dsimp only at hSw); (go_simp <;> with_reducible rfl)
  try simp only [List.getElem_toArray, List.getElem_cons_zero, List.getElem_cons_succ, Act.put, List.setIfInBounds_toArray, List.set_cons_zero, List.set_cons_succ]
  refine wpL_leaf _ (by kernel_rfl) ?_
  refine wpAny_none _ (by kernel_rfl) ?_
  clear hHeld
  go_wp2
  go_ret2
  exact ⟨r, s, M', rfl, HP.out, HRE.out, H6.out, H7.out, (C1.out.mono (fun k _ hk => by rw [hk]; exact SM.mem_mut.2 (Or.inl (by simp [SM.base])))).trans ((Chg.refl W (fun k => k ∈ M.mut)).drew.trans HC.out), fun k hk => (HF6.out k hk).imp id (fun h => Nat.le_trans C1.out.size h)⟩

end Go.Proofs.Ytlheloogmgmjnaa

namespace Go.Proofs.Ytlheloogmgmjnaa
open Go.RowKit

def inI64 (c : Int) : Prop := -9223372036854775808 ≤ c ∧ c ≤ 9223372036854775807
def pickN (c : Int) (n : Nat) : Nat := ((if c < 0 then -(c + 1) else c) % (n : Int)).toNat
theorem pickN_lt (c : Int) {n : Nat} (hn : 0 < n) : pickN c n < n := by
  unfold pickN
  have h1 := Int.emod_lt_of_pos (if c < 0 then -(c + 1) else c) (show (0 : Int) < n by omega)
  have h2 := Int.emod_nonneg (if c < 0 then -(c + 1) else c) (show (n : Int) ≠ 0 by omega)
  omega

theorem tmod_nat {x : Int} {n : Nat} (hx : 0 ≤ x) (hn : 0 < n) : Int.tmod x (n : Int) = (((x % (n : Int)).toNat : Nat) : Int) := by
  have h2 := Int.emod_nonneg x (show (n : Int) ≠ 0 by omega)
  rw [Int.tmod_eq_emod_of_nonneg hx, Int.toNat_of_nonneg h2]

set_option maxHeartbeats 1000000 in
theorem pick_any (c : Int) (n : Nat) (hc : inI64 c) (hn : 0 < n) (w : World) :
    Calls Try.prog 36 #[.int .i64 c, .int .i64 n] w fun e w' => e = .returned (.int .i64 (pickN c n)) ∧ w' = w := by
  obtain ⟨h1, h2⟩ := hc
  by_cases h0 : c < 0
  · have hp : pickN c n = ((-(c + 1)) % (n : Int)).toNat := by unfold pickN; rw [if_pos h0]
    have hw1 : IntKind.i64.wrap (c + 1) = c + 1 := by rw [IntKind.wrap_i64]; omega
    have hw2 : IntKind.i64.wrap (-(c + 1)) = -(c + 1) := by rw [IntKind.wrap_i64]; omega
    have HR := hide (tmod_nat (x := -(c + 1)) (n := n) (by omega) hn)
    have HP := hide hp
    have hn0 : ¬ (n : Int) = 0 := by omega
    clear hp
    go_enter Try.func36, Try.ntmps36
    go_wp2
    go_ret
    refine ⟨?_, rfl⟩
    rw [HP.out, ← HR.out, Int.neg_tmod]
    rfl
  · have hp : pickN c n = (c % (n : Int)).toNat := by unfold pickN; rw [if_neg h0]
    have HR := hide (tmod_nat (x := c) (n := n) (by omega) hn)
    have HE := hide (Int.tmod_eq_emod_of_nonneg (a := c) (b := (n : Int)) (by omega))
    have HP := hide hp
    have hn0 : ¬ (n : Int) = 0 := by omega
    clear hp
    go_enter Try.func36, Try.ntmps36
    go_wp2
    go_ret
    refine ⟨?_, rfl⟩
    rw [HP.out, ← HR.out, HE.out]
    rfl

end Go.Proofs.Ytlheloogmgmjnaa

namespace Go.Proofs.Ytlheloogmgmjnaa
open Go.RowKit

set_option maxHeartbeats 2000000 in
set_option maxRecDepth 100000 in
theorem keysOf_any (c : Int) (hc : inI64 c) (w : World) :
    Calls Try.prog 43 #[.int .i64 c] w fun e w' => ∃ (s : Sl) (ks : List Int), e = .returned (.slice s.a s.n s.c) ∧ Own w' 3 1 s (ints ks) ∧ s.n = ks.length ∧ ks.length ≤ 6 ∧ (∀ x ∈ ks, 0 ≤ x ∧ x < 24) ∧ ks.Nodup ∧ Below w.heap.size w w' ∧ (∀ b ∈ s.blk, w.heap.size ≤ b) := by
  obtain ⟨i0, hi, hz0, hz1, hz2⟩ := info_parts Try.info3
  have PK := hide (pick_any c 256 hc (by omega) w)
  clear hc
  generalize pickN c 256 = m at *
  go_enter Try.func43, Try.ntmps43
  go_wp2_with (go_at_call 36; refine PK.out.mono ?_; rintro e w' ⟨rfl, hw⟩; rw [hw]; clear hw)
  go_loopw [3, 5] (fun out k wr => ∃ (j : Nat) (s : Sl) (ks : List Int), j ≤ 8 ∧ k = .int .i64 j ∧ out = .slice s.a s.n s.c ∧ Own wr 3 1 s (ints ks) ∧ s.n = ks.length ∧ ks.length ≤ 6 ∧ (∀ x ∈ ks, 0 ≤ x ∧ x < j) ∧ ks.Nodup ∧ Below w.heap.size w wr ∧ (∀ b ∈ s.blk, w.heap.size ≤ b)) (fun _ k _ => 8 - (intOf k).toNat)
  case atStart => exact ⟨0, Sl.nil, [], Nat.zero_le _, rfl, rfl, Own.nil _ _ _, rfl, by simp, by simp, by simp, Below.refl _ _, by simp [Sl.nil, Sl.blk]⟩
  case round =>
    obtain ⟨j, s, ks, hj, rfl, rfl, hO, hn, h6, hr, hnd, hb, hnew⟩ := hrel
    have HO := hide hO; have HR := hide hr; have HND := hide hnd; have HB := hide hb; have HNW := hide hnew; have HN := hide hn
    clear hO hr hnd hb hnew
    by_cases hjl : j < 8
    · by_cases hk6 : ks.length < 6
      · have hjl' : (j : Int) < 8 := by omega
        have hk6' : (ks.length : Int) < 6 := by omega
        have hks6 : (s.n : Int) < 6 := by omega
        have hwj : IntKind.i64.wrap ((j : Int) + 1) = ((j + 1 : Nat) : Int) := by rw [IntKind.wrap_i64]; omega
        have P1 := hide (rowAt_alloc wr [.int .i64 j] 3)
        have B1 := hide (below_alloc1 wr (.cells #[.int .i64 j] 3))
        have O1 := hide (HO.out.below B1.out)
        have MM := hide (show s.n + 1 ≤ maxLen by rw [HN.out]; unfold maxLen; omega)
        have QQ := hide (show (s.n + 1) * 8 ≤ 140737488355328 by rw [HN.out]; omega)
        have TL := hide (show Own wr 3 1 s (ints ks) from HO.out)
        generalize hbq : (bits BinOp.and IntKind.i64 ((m : Int) / 2 ^ j) 1 == 1) = bq
        have HBQ := hide hbq
        clear hbq
        clear hn
        cases bq with
        | true =>
          have hbt := HBQ.out
          go_wp2_with (at_builtin; refine wpList_append_sl rfl (.tmp 22) (.tmp 24) 22 rfl 3 i0 (.int .i64 0) 1 8 Try.underlying22 hi hz0 hz1 hz2 rfl (by decide) s (ints ks) rfl O1.out (some ⟨wr.heap.size, 0, none⟩) 1 1 [.int .i64 j] rfl rfl (by simp) (fun ad had q u hu => by cases had; rw [addr_add, Nat.zero_add]; exact P1.out.cell' hu) (by intro u hu; rw [List.mem_singleton.1 hu]; rfl) MM.out QQ.out ?_; intro s1 w1 ow1 sn1 ch1 bl1; have OW := hide ow1; have SN := hide sn1; have CH := hide ch1; have BL := hide bl1; clear ow1 sn1 ch1 bl1)
          go_roundw
          case rel =>
            refine ⟨j + 1, s1, ks ++ [(j : Int)], by omega, by go_num, rfl, ?_, ?_, ?_, ?_, ?_, ?_, ?_⟩
            · have := OW.out
              simpa [ints] using this
            · rw [SN.out, HN.out]; simp
            · simp; omega
            · intro x hx
              rcases List.mem_append.1 hx with hx | hx
              · have := HR.out x hx; omega
              · rw [List.mem_singleton.1 hx]; omega
            · rw [List.nodup_append]
              refine ⟨HND.out, by simp, ?_⟩
              intro a ha b hb
              rw [List.mem_singleton.1 hb]
              have := HR.out a ha
              omega
            · exact (below_on HB.out B1.out).trans (CH.out.belowB (fun k hk => HNW.out k hk) (below_on HB.out B1.out).size)
            · intro b hb
              rcases BL.out b hb with q | q
              · exact HNW.out b q
              · rw [q]; exact (below_on HB.out B1.out).size
          case measure => simp [intOf]; omega
        | false =>
          have hbf := HBQ.out
          go_wp2
          go_roundw
          case rel => exact ⟨j + 1, s, ks, by omega, by go_num, rfl, HO.out, HN.out, h6, fun x hx => by have := HR.out x hx; omega, HND.out, HB.out, HNW.out⟩
          case measure => simp [intOf]; omega
      · have hk6' : ¬ (ks.length : Int) < 6 := by omega
        have hjl' : (j : Int) < 8 := by omega
        rw [hn]
        go_wp2
        go_ret
        exact ⟨s, by rw [HN.out]; rfl, ks, HO.out, HN.out, h6, fun x hx => by have := HR.out x hx; omega, HND.out, HB.out, HNW.out⟩
    · obtain rfl : j = 8 := by omega
      rw [hn]
      go_wp2
      go_ret
      exact ⟨s, ks, by rw [HN.out]; rfl, HO.out, HN.out, h6, fun x hx => by have := HR.out x hx; omega, HND.out, HB.out, HNW.out⟩

end Go.Proofs.Ytlheloogmgmjnaa

namespace Go.Proofs.Ytlheloogmgmjnaa
open Go.RowKit

/-- The instruction that a number spells. -/
def instrN (v nr nw : Nat) : Ins :=
  if (v : Int) % 11 = 0 then ⟨1, (v : Int) / 11 % 6, (v : Int) / 66 % 19 - 6, 0⟩
  else if (v : Int) % 11 = 1 then ⟨2, (v : Int) / 11 % 6, (v : Int) / 66 % 6, (v : Int) / 396 % 6⟩
  else if (v : Int) % 11 = 2 then ⟨3, (v : Int) / 11 % 6, (v : Int) / 66 % 6, (v : Int) / 396 % 6⟩
  else if (v : Int) % 11 = 3 then ⟨4, (v : Int) / 11 % 6, (v : Int) / 66 % 6, (v : Int) / 396 % 6⟩
  else if (v : Int) % 11 = 4 then ⟨5, (v : Int) / 11 % 6, (v : Int) / 66 % 6, (v : Int) / 396 % 6⟩
  else if (v : Int) % 11 = 5 ∧ nr ≠ 0 then ⟨6, (v : Int) / 11 % 6, (v : Int) / 66 % 6 % (nr : Int), 0⟩
  else if (v : Int) % 11 = 6 ∧ nr ≠ 0 then ⟨7, (v : Int) / 11 % 6, (v : Int) / 66 % 6 % (nr : Int), 0⟩
  else if (v : Int) % 11 = 7 ∧ nw ≠ 0 then ⟨8, (v : Int) / 11 % 6 % (nw : Int), (v : Int) / 66 % 6, 0⟩
  else if (v : Int) % 11 = 8 ∧ nw ≠ 0 then ⟨9, (v : Int) / 11 % 6 % (nw : Int), 0, 0⟩
  else if (v : Int) % 11 = 9 then ⟨10, (v : Int) / 11 % 6, 1 + (v : Int) / 66 % 4, 0⟩
  else if (v : Int) % 11 = 10 ∧ (v : Int) / 11 % 4 = 0 then ⟨11, 0, 0, 0⟩
  else ⟨1, (v : Int) / 11 % 6, (v : Int) / 66 % 6, 0⟩
def Ins.vals (x : Ins) : Array Value := #[.int .i64 x.op, .int .i64 x.a, .int .i64 x.b, .int .i64 x.c]

set_option maxHeartbeats 2000000 in
set_option maxRecDepth 100000 in
theorem instr_1 (v nr nw : Nat) (hv : v < 1099511627776) (_hr : nr ≤ 6) (_hw6 : nw ≤ 6) (hm : (v : Int) % 11 = 0) (w : World) :
    Calls Try.prog 44 #[.int .i64 v, .int .i64 nr, .int .i64 nw] w fun e w' => e = .returned (.agg (instrN v nr nw).vals) ∧ soundB (instrN v nr nw) nr nw = true ∧ Below w.heap.size w w' := by
  have a0 : 0 ≤ (v : Int) / 11 % 6 := by omega
  have a6 : (v : Int) / 11 % 6 < 6 := by omega
  have b0 : 0 ≤ (v : Int) / 66 % 6 := by omega
  have b6 : (v : Int) / 66 % 6 < 6 := by omega
  have c0 : 0 ≤ (v : Int) / 396 % 6 := by omega
  have c6 : (v : Int) / 396 % 6 < 6 := by omega
  have d0 : 0 ≤ (v : Int) / 66 % 19 := by omega
  have d1 : (v : Int) / 66 % 19 < 19 := by omega
  have hwd : IntKind.i64.wrap ((v : Int) / 66 % 19 - 6) = (v : Int) / 66 % 19 - 6 := by rw [IntKind.wrap_i64]; omega
  have HX := hide (show instrN v nr nw = ⟨1, (v : Int) / 11 % 6, (v : Int) / 66 % 19 - 6, 0⟩ by unfold instrN; simp [hm])
  have HS := hide (show soundB ⟨1, (v : Int) / 11 % 6, (v : Int) / 66 % 19 - 6, 0⟩ nr nw = true by simp [soundB, bel]; omega)
  go_enter Try.func44, Try.ntmps44
  go_wp2
  refine bodyPost_ret (v := .agg #[.int .i64 (Ins.op ⟨1, (v : Int) / 11 % 6, (v : Int) / 66 % 19 - 6, 0⟩), .int .i64 (Ins.a ⟨1, (v : Int) / 11 % 6, (v : Int) / 66 % 19 - 6, 0⟩), .int .i64 (Ins.b ⟨1, (v : Int) / 11 % 6, (v : Int) / 66 % 19 - 6, 0⟩), .int .i64 (Ins.c ⟨1, (v : Int) / 11 % 6, (v : Int) / 66 % 19 - 6, 0⟩)]) (by simp [results, Try.results44, go_sem]) rfl ⟨by rw [HX.out]; rfl, by rw [HX.out]; exact HS.out, below_alloc1 _ _⟩

set_option maxHeartbeats 2000000 in
set_option maxRecDepth 100000 in
theorem instr_2 (v nr nw : Nat) (hv : v < 1099511627776) (_hr : nr ≤ 6) (_hw6 : nw ≤ 6) (hm : (v : Int) % 11 = 1) (w : World) :
    Calls Try.prog 44 #[.int .i64 v, .int .i64 nr, .int .i64 nw] w fun e w' => e = .returned (.agg (instrN v nr nw).vals) ∧ soundB (instrN v nr nw) nr nw = true ∧ Below w.heap.size w w' := by
  have a0 : 0 ≤ (v : Int) / 11 % 6 := by omega
  have a6 : (v : Int) / 11 % 6 < 6 := by omega
  have b0 : 0 ≤ (v : Int) / 66 % 6 := by omega
  have b6 : (v : Int) / 66 % 6 < 6 := by omega
  have c0 : 0 ≤ (v : Int) / 396 % 6 := by omega
  have c6 : (v : Int) / 396 % 6 < 6 := by omega
  have HX := hide (show instrN v nr nw = ⟨2, (v : Int) / 11 % 6, (v : Int) / 66 % 6, (v : Int) / 396 % 6⟩ by unfold instrN; simp [hm])
  have HS := hide (show soundB ⟨2, (v : Int) / 11 % 6, (v : Int) / 66 % 6, (v : Int) / 396 % 6⟩ nr nw = true by simp [soundB, bel]; omega)
  go_enter Try.func44, Try.ntmps44
  go_wp2
  refine bodyPost_ret (v := .agg #[.int .i64 (Ins.op ⟨2, (v : Int) / 11 % 6, (v : Int) / 66 % 6, (v : Int) / 396 % 6⟩), .int .i64 (Ins.a ⟨2, (v : Int) / 11 % 6, (v : Int) / 66 % 6, (v : Int) / 396 % 6⟩), .int .i64 (Ins.b ⟨2, (v : Int) / 11 % 6, (v : Int) / 66 % 6, (v : Int) / 396 % 6⟩), .int .i64 (Ins.c ⟨2, (v : Int) / 11 % 6, (v : Int) / 66 % 6, (v : Int) / 396 % 6⟩)]) (by simp [results, Try.results44, go_sem]) rfl ⟨by rw [HX.out]; rfl, by rw [HX.out]; exact HS.out, below_alloc1 _ _⟩

set_option maxHeartbeats 2000000 in
set_option maxRecDepth 100000 in
theorem instr_3 (v nr nw : Nat) (hv : v < 1099511627776) (_hr : nr ≤ 6) (_hw6 : nw ≤ 6) (hm : (v : Int) % 11 = 2) (w : World) :
    Calls Try.prog 44 #[.int .i64 v, .int .i64 nr, .int .i64 nw] w fun e w' => e = .returned (.agg (instrN v nr nw).vals) ∧ soundB (instrN v nr nw) nr nw = true ∧ Below w.heap.size w w' := by
  have a0 : 0 ≤ (v : Int) / 11 % 6 := by omega
  have a6 : (v : Int) / 11 % 6 < 6 := by omega
  have b0 : 0 ≤ (v : Int) / 66 % 6 := by omega
  have b6 : (v : Int) / 66 % 6 < 6 := by omega
  have c0 : 0 ≤ (v : Int) / 396 % 6 := by omega
  have c6 : (v : Int) / 396 % 6 < 6 := by omega
  have HX := hide (show instrN v nr nw = ⟨3, (v : Int) / 11 % 6, (v : Int) / 66 % 6, (v : Int) / 396 % 6⟩ by unfold instrN; simp [hm])
  have HS := hide (show soundB ⟨3, (v : Int) / 11 % 6, (v : Int) / 66 % 6, (v : Int) / 396 % 6⟩ nr nw = true by simp [soundB, bel]; omega)
  go_enter Try.func44, Try.ntmps44
  go_wp2
  refine bodyPost_ret (v := .agg #[.int .i64 (Ins.op ⟨3, (v : Int) / 11 % 6, (v : Int) / 66 % 6, (v : Int) / 396 % 6⟩), .int .i64 (Ins.a ⟨3, (v : Int) / 11 % 6, (v : Int) / 66 % 6, (v : Int) / 396 % 6⟩), .int .i64 (Ins.b ⟨3, (v : Int) / 11 % 6, (v : Int) / 66 % 6, (v : Int) / 396 % 6⟩), .int .i64 (Ins.c ⟨3, (v : Int) / 11 % 6, (v : Int) / 66 % 6, (v : Int) / 396 % 6⟩)]) (by simp [results, Try.results44, go_sem]) rfl ⟨by rw [HX.out]; rfl, by rw [HX.out]; exact HS.out, below_alloc1 _ _⟩

set_option maxHeartbeats 2000000 in
set_option maxRecDepth 100000 in
theorem instr_4 (v nr nw : Nat) (hv : v < 1099511627776) (_hr : nr ≤ 6) (_hw6 : nw ≤ 6) (hm : (v : Int) % 11 = 3) (w : World) :
    Calls Try.prog 44 #[.int .i64 v, .int .i64 nr, .int .i64 nw] w fun e w' => e = .returned (.agg (instrN v nr nw).vals) ∧ soundB (instrN v nr nw) nr nw = true ∧ Below w.heap.size w w' := by
  have a0 : 0 ≤ (v : Int) / 11 % 6 := by omega
  have a6 : (v : Int) / 11 % 6 < 6 := by omega
  have b0 : 0 ≤ (v : Int) / 66 % 6 := by omega
  have b6 : (v : Int) / 66 % 6 < 6 := by omega
  have c0 : 0 ≤ (v : Int) / 396 % 6 := by omega
  have c6 : (v : Int) / 396 % 6 < 6 := by omega
  have HX := hide (show instrN v nr nw = ⟨4, (v : Int) / 11 % 6, (v : Int) / 66 % 6, (v : Int) / 396 % 6⟩ by unfold instrN; simp [hm])
  have HS := hide (show soundB ⟨4, (v : Int) / 11 % 6, (v : Int) / 66 % 6, (v : Int) / 396 % 6⟩ nr nw = true by simp [soundB, bel]; omega)
  go_enter Try.func44, Try.ntmps44
  go_wp2
  refine bodyPost_ret (v := .agg #[.int .i64 (Ins.op ⟨4, (v : Int) / 11 % 6, (v : Int) / 66 % 6, (v : Int) / 396 % 6⟩), .int .i64 (Ins.a ⟨4, (v : Int) / 11 % 6, (v : Int) / 66 % 6, (v : Int) / 396 % 6⟩), .int .i64 (Ins.b ⟨4, (v : Int) / 11 % 6, (v : Int) / 66 % 6, (v : Int) / 396 % 6⟩), .int .i64 (Ins.c ⟨4, (v : Int) / 11 % 6, (v : Int) / 66 % 6, (v : Int) / 396 % 6⟩)]) (by simp [results, Try.results44, go_sem]) rfl ⟨by rw [HX.out]; rfl, by rw [HX.out]; exact HS.out, below_alloc1 _ _⟩

set_option maxHeartbeats 2000000 in
set_option maxRecDepth 100000 in
theorem instr_5 (v nr nw : Nat) (hv : v < 1099511627776) (_hr : nr ≤ 6) (_hw6 : nw ≤ 6) (hm : (v : Int) % 11 = 4) (w : World) :
    Calls Try.prog 44 #[.int .i64 v, .int .i64 nr, .int .i64 nw] w fun e w' => e = .returned (.agg (instrN v nr nw).vals) ∧ soundB (instrN v nr nw) nr nw = true ∧ Below w.heap.size w w' := by
  have a0 : 0 ≤ (v : Int) / 11 % 6 := by omega
  have a6 : (v : Int) / 11 % 6 < 6 := by omega
  have b0 : 0 ≤ (v : Int) / 66 % 6 := by omega
  have b6 : (v : Int) / 66 % 6 < 6 := by omega
  have c0 : 0 ≤ (v : Int) / 396 % 6 := by omega
  have c6 : (v : Int) / 396 % 6 < 6 := by omega
  have HX := hide (show instrN v nr nw = ⟨5, (v : Int) / 11 % 6, (v : Int) / 66 % 6, (v : Int) / 396 % 6⟩ by unfold instrN; simp [hm])
  have HS := hide (show soundB ⟨5, (v : Int) / 11 % 6, (v : Int) / 66 % 6, (v : Int) / 396 % 6⟩ nr nw = true by simp [soundB, bel]; omega)
  go_enter Try.func44, Try.ntmps44
  go_wp2
  refine bodyPost_ret (v := .agg #[.int .i64 (Ins.op ⟨5, (v : Int) / 11 % 6, (v : Int) / 66 % 6, (v : Int) / 396 % 6⟩), .int .i64 (Ins.a ⟨5, (v : Int) / 11 % 6, (v : Int) / 66 % 6, (v : Int) / 396 % 6⟩), .int .i64 (Ins.b ⟨5, (v : Int) / 11 % 6, (v : Int) / 66 % 6, (v : Int) / 396 % 6⟩), .int .i64 (Ins.c ⟨5, (v : Int) / 11 % 6, (v : Int) / 66 % 6, (v : Int) / 396 % 6⟩)]) (by simp [results, Try.results44, go_sem]) rfl ⟨by rw [HX.out]; rfl, by rw [HX.out]; exact HS.out, below_alloc1 _ _⟩

set_option maxHeartbeats 2000000 in
set_option maxRecDepth 100000 in
theorem instr_6 (v nr nw : Nat) (hv : v < 1099511627776) (hr : nr ≤ 6) (_hw6 : nw ≤ 6) (hm : (v : Int) % 11 = 5) (w : World) :
    Calls Try.prog 44 #[.int .i64 v, .int .i64 nr, .int .i64 nw] w fun e w' => e = .returned (.agg (instrN v nr nw).vals) ∧ soundB (instrN v nr nw) nr nw = true ∧ Below w.heap.size w w' := by
  have a0 : 0 ≤ (v : Int) / 11 % 6 := by omega
  have a6 : (v : Int) / 11 % 6 < 6 := by omega
  have b0 : 0 ≤ (v : Int) / 66 % 6 := by omega
  have b6 : (v : Int) / 66 % 6 < 6 := by omega
  have c0 : 0 ≤ (v : Int) / 396 % 6 := by omega
  have c6 : (v : Int) / 396 % 6 < 6 := by omega
  by_cases h0 : nr = 0
  · have hz : ¬ (0 : Int) < (nr : Int) := by omega
    have HX := hide (show instrN v nr nw = ⟨1, (v : Int) / 11 % 6, (v : Int) / 66 % 6, 0⟩ by unfold instrN; simp [hm, h0])
    have HS := hide (show soundB ⟨1, (v : Int) / 11 % 6, (v : Int) / 66 % 6, 0⟩ nr nw = true by simp [soundB, bel]; omega)
    clear h0
    go_enter Try.func44, Try.ntmps44
    go_wp2
    refine bodyPost_ret (v := .agg #[.int .i64 (Ins.op ⟨1, (v : Int) / 11 % 6, (v : Int) / 66 % 6, 0⟩), .int .i64 (Ins.a ⟨1, (v : Int) / 11 % 6, (v : Int) / 66 % 6, 0⟩), .int .i64 (Ins.b ⟨1, (v : Int) / 11 % 6, (v : Int) / 66 % 6, 0⟩), .int .i64 (Ins.c ⟨1, (v : Int) / 11 % 6, (v : Int) / 66 % 6, 0⟩)]) (by simp [results, Try.results44, go_sem]) rfl ⟨by rw [HX.out]; rfl, by rw [HX.out]; exact HS.out, below_alloc1 _ _⟩
  · have hp : (0 : Int) < (nr : Int) := by omega
    have hn0 : ¬ (nr : Int) = 0 := by omega
    have q0 : 0 ≤ (v : Int) / 66 % 6 % (nr : Int) := Int.emod_nonneg _ hn0
    have q1 : (v : Int) / 66 % 6 % (nr : Int) < (nr : Int) := Int.emod_lt_of_pos _ hp
    have HX := hide (show instrN v nr nw = ⟨6, (v : Int) / 11 % 6, (v : Int) / 66 % 6 % (nr : Int), 0⟩ by unfold instrN; simp [hm, h0])
    have HS := hide (show soundB ⟨6, (v : Int) / 11 % 6, (v : Int) / 66 % 6 % (nr : Int), 0⟩ nr nw = true by simp [soundB, bel]; omega)
    go_enter Try.func44, Try.ntmps44
    go_wp2
    refine bodyPost_ret (v := .agg #[.int .i64 (Ins.op ⟨6, (v : Int) / 11 % 6, (v : Int) / 66 % 6 % (nr : Int), 0⟩), .int .i64 (Ins.a ⟨6, (v : Int) / 11 % 6, (v : Int) / 66 % 6 % (nr : Int), 0⟩), .int .i64 (Ins.b ⟨6, (v : Int) / 11 % 6, (v : Int) / 66 % 6 % (nr : Int), 0⟩), .int .i64 (Ins.c ⟨6, (v : Int) / 11 % 6, (v : Int) / 66 % 6 % (nr : Int), 0⟩)]) (by simp [results, Try.results44, go_sem]) rfl ⟨by rw [HX.out]; rfl, by rw [HX.out]; exact HS.out, below_alloc1 _ _⟩

set_option maxHeartbeats 2000000 in
set_option maxRecDepth 100000 in
theorem instr_7 (v nr nw : Nat) (hv : v < 1099511627776) (hr : nr ≤ 6) (_hw6 : nw ≤ 6) (hm : (v : Int) % 11 = 6) (w : World) :
    Calls Try.prog 44 #[.int .i64 v, .int .i64 nr, .int .i64 nw] w fun e w' => e = .returned (.agg (instrN v nr nw).vals) ∧ soundB (instrN v nr nw) nr nw = true ∧ Below w.heap.size w w' := by
  have a0 : 0 ≤ (v : Int) / 11 % 6 := by omega
  have a6 : (v : Int) / 11 % 6 < 6 := by omega
  have b0 : 0 ≤ (v : Int) / 66 % 6 := by omega
  have b6 : (v : Int) / 66 % 6 < 6 := by omega
  have c0 : 0 ≤ (v : Int) / 396 % 6 := by omega
  have c6 : (v : Int) / 396 % 6 < 6 := by omega
  by_cases h0 : nr = 0
  · have hz : ¬ (0 : Int) < (nr : Int) := by omega
    have HX := hide (show instrN v nr nw = ⟨1, (v : Int) / 11 % 6, (v : Int) / 66 % 6, 0⟩ by unfold instrN; simp [hm, h0])
    have HS := hide (show soundB ⟨1, (v : Int) / 11 % 6, (v : Int) / 66 % 6, 0⟩ nr nw = true by simp [soundB, bel]; omega)
    clear h0
    go_enter Try.func44, Try.ntmps44
    go_wp2
    refine bodyPost_ret (v := .agg #[.int .i64 (Ins.op ⟨1, (v : Int) / 11 % 6, (v : Int) / 66 % 6, 0⟩), .int .i64 (Ins.a ⟨1, (v : Int) / 11 % 6, (v : Int) / 66 % 6, 0⟩), .int .i64 (Ins.b ⟨1, (v : Int) / 11 % 6, (v : Int) / 66 % 6, 0⟩), .int .i64 (Ins.c ⟨1, (v : Int) / 11 % 6, (v : Int) / 66 % 6, 0⟩)]) (by simp [results, Try.results44, go_sem]) rfl ⟨by rw [HX.out]; rfl, by rw [HX.out]; exact HS.out, below_alloc1 _ _⟩
  · have hp : (0 : Int) < (nr : Int) := by omega
    have hn0 : ¬ (nr : Int) = 0 := by omega
    have q0 : 0 ≤ (v : Int) / 66 % 6 % (nr : Int) := Int.emod_nonneg _ hn0
    have q1 : (v : Int) / 66 % 6 % (nr : Int) < (nr : Int) := Int.emod_lt_of_pos _ hp
    have HX := hide (show instrN v nr nw = ⟨7, (v : Int) / 11 % 6, (v : Int) / 66 % 6 % (nr : Int), 0⟩ by unfold instrN; simp [hm, h0])
    have HS := hide (show soundB ⟨7, (v : Int) / 11 % 6, (v : Int) / 66 % 6 % (nr : Int), 0⟩ nr nw = true by simp [soundB, bel]; omega)
    go_enter Try.func44, Try.ntmps44
    go_wp2
    refine bodyPost_ret (v := .agg #[.int .i64 (Ins.op ⟨7, (v : Int) / 11 % 6, (v : Int) / 66 % 6 % (nr : Int), 0⟩), .int .i64 (Ins.a ⟨7, (v : Int) / 11 % 6, (v : Int) / 66 % 6 % (nr : Int), 0⟩), .int .i64 (Ins.b ⟨7, (v : Int) / 11 % 6, (v : Int) / 66 % 6 % (nr : Int), 0⟩), .int .i64 (Ins.c ⟨7, (v : Int) / 11 % 6, (v : Int) / 66 % 6 % (nr : Int), 0⟩)]) (by simp [results, Try.results44, go_sem]) rfl ⟨by rw [HX.out]; rfl, by rw [HX.out]; exact HS.out, below_alloc1 _ _⟩

set_option maxHeartbeats 2000000 in
set_option maxRecDepth 100000 in
theorem instr_8 (v nr nw : Nat) (hv : v < 1099511627776) (_hr : nr ≤ 6) (hw6 : nw ≤ 6) (hm : (v : Int) % 11 = 7) (w : World) :
    Calls Try.prog 44 #[.int .i64 v, .int .i64 nr, .int .i64 nw] w fun e w' => e = .returned (.agg (instrN v nr nw).vals) ∧ soundB (instrN v nr nw) nr nw = true ∧ Below w.heap.size w w' := by
  have a0 : 0 ≤ (v : Int) / 11 % 6 := by omega
  have a6 : (v : Int) / 11 % 6 < 6 := by omega
  have b0 : 0 ≤ (v : Int) / 66 % 6 := by omega
  have b6 : (v : Int) / 66 % 6 < 6 := by omega
  have c0 : 0 ≤ (v : Int) / 396 % 6 := by omega
  have c6 : (v : Int) / 396 % 6 < 6 := by omega
  by_cases h0 : nw = 0
  · have hz : ¬ (0 : Int) < (nw : Int) := by omega
    have HX := hide (show instrN v nr nw = ⟨1, (v : Int) / 11 % 6, (v : Int) / 66 % 6, 0⟩ by unfold instrN; simp [hm, h0])
    have HS := hide (show soundB ⟨1, (v : Int) / 11 % 6, (v : Int) / 66 % 6, 0⟩ nr nw = true by simp [soundB, bel]; omega)
    clear h0
    go_enter Try.func44, Try.ntmps44
    go_wp2
    refine bodyPost_ret (v := .agg #[.int .i64 (Ins.op ⟨1, (v : Int) / 11 % 6, (v : Int) / 66 % 6, 0⟩), .int .i64 (Ins.a ⟨1, (v : Int) / 11 % 6, (v : Int) / 66 % 6, 0⟩), .int .i64 (Ins.b ⟨1, (v : Int) / 11 % 6, (v : Int) / 66 % 6, 0⟩), .int .i64 (Ins.c ⟨1, (v : Int) / 11 % 6, (v : Int) / 66 % 6, 0⟩)]) (by simp [results, Try.results44, go_sem]) rfl ⟨by rw [HX.out]; rfl, by rw [HX.out]; exact HS.out, below_alloc1 _ _⟩
  · have hp : (0 : Int) < (nw : Int) := by omega
    have hn0 : ¬ (nw : Int) = 0 := by omega
    have q0 : 0 ≤ (v : Int) / 11 % 6 % (nw : Int) := Int.emod_nonneg _ hn0
    have q1 : (v : Int) / 11 % 6 % (nw : Int) < (nw : Int) := Int.emod_lt_of_pos _ hp
    have HX := hide (show instrN v nr nw = ⟨8, (v : Int) / 11 % 6 % (nw : Int), (v : Int) / 66 % 6, 0⟩ by unfold instrN; simp [hm, h0])
    have HS := hide (show soundB ⟨8, (v : Int) / 11 % 6 % (nw : Int), (v : Int) / 66 % 6, 0⟩ nr nw = true by simp [soundB, bel]; omega)
    go_enter Try.func44, Try.ntmps44
    go_wp2
    refine bodyPost_ret (v := .agg #[.int .i64 (Ins.op ⟨8, (v : Int) / 11 % 6 % (nw : Int), (v : Int) / 66 % 6, 0⟩), .int .i64 (Ins.a ⟨8, (v : Int) / 11 % 6 % (nw : Int), (v : Int) / 66 % 6, 0⟩), .int .i64 (Ins.b ⟨8, (v : Int) / 11 % 6 % (nw : Int), (v : Int) / 66 % 6, 0⟩), .int .i64 (Ins.c ⟨8, (v : Int) / 11 % 6 % (nw : Int), (v : Int) / 66 % 6, 0⟩)]) (by simp [results, Try.results44, go_sem]) rfl ⟨by rw [HX.out]; rfl, by rw [HX.out]; exact HS.out, below_alloc1 _ _⟩

set_option maxHeartbeats 2000000 in
set_option maxRecDepth 100000 in
theorem instr_9 (v nr nw : Nat) (hv : v < 1099511627776) (_hr : nr ≤ 6) (hw6 : nw ≤ 6) (hm : (v : Int) % 11 = 8) (w : World) :
    Calls Try.prog 44 #[.int .i64 v, .int .i64 nr, .int .i64 nw] w fun e w' => e = .returned (.agg (instrN v nr nw).vals) ∧ soundB (instrN v nr nw) nr nw = true ∧ Below w.heap.size w w' := by
  have a0 : 0 ≤ (v : Int) / 11 % 6 := by omega
  have a6 : (v : Int) / 11 % 6 < 6 := by omega
  have b0 : 0 ≤ (v : Int) / 66 % 6 := by omega
  have b6 : (v : Int) / 66 % 6 < 6 := by omega
  have c0 : 0 ≤ (v : Int) / 396 % 6 := by omega
  have c6 : (v : Int) / 396 % 6 < 6 := by omega
  by_cases h0 : nw = 0
  · have hz : ¬ (0 : Int) < (nw : Int) := by omega
    have HX := hide (show instrN v nr nw = ⟨1, (v : Int) / 11 % 6, (v : Int) / 66 % 6, 0⟩ by unfold instrN; simp [hm, h0])
    have HS := hide (show soundB ⟨1, (v : Int) / 11 % 6, (v : Int) / 66 % 6, 0⟩ nr nw = true by simp [soundB, bel]; omega)
    clear h0
    go_enter Try.func44, Try.ntmps44
    go_wp2
    refine bodyPost_ret (v := .agg #[.int .i64 (Ins.op ⟨1, (v : Int) / 11 % 6, (v : Int) / 66 % 6, 0⟩), .int .i64 (Ins.a ⟨1, (v : Int) / 11 % 6, (v : Int) / 66 % 6, 0⟩), .int .i64 (Ins.b ⟨1, (v : Int) / 11 % 6, (v : Int) / 66 % 6, 0⟩), .int .i64 (Ins.c ⟨1, (v : Int) / 11 % 6, (v : Int) / 66 % 6, 0⟩)]) (by simp [results, Try.results44, go_sem]) rfl ⟨by rw [HX.out]; rfl, by rw [HX.out]; exact HS.out, below_alloc1 _ _⟩
  · have hp : (0 : Int) < (nw : Int) := by omega
    have hn0 : ¬ (nw : Int) = 0 := by omega
    have q0 : 0 ≤ (v : Int) / 11 % 6 % (nw : Int) := Int.emod_nonneg _ hn0
    have q1 : (v : Int) / 11 % 6 % (nw : Int) < (nw : Int) := Int.emod_lt_of_pos _ hp
    have HX := hide (show instrN v nr nw = ⟨9, (v : Int) / 11 % 6 % (nw : Int), 0, 0⟩ by unfold instrN; simp [hm, h0])
    have HS := hide (show soundB ⟨9, (v : Int) / 11 % 6 % (nw : Int), 0, 0⟩ nr nw = true by simp [soundB, bel]; omega)
    go_enter Try.func44, Try.ntmps44
    go_wp2
    refine bodyPost_ret (v := .agg #[.int .i64 (Ins.op ⟨9, (v : Int) / 11 % 6 % (nw : Int), 0, 0⟩), .int .i64 (Ins.a ⟨9, (v : Int) / 11 % 6 % (nw : Int), 0, 0⟩), .int .i64 (Ins.b ⟨9, (v : Int) / 11 % 6 % (nw : Int), 0, 0⟩), .int .i64 (Ins.c ⟨9, (v : Int) / 11 % 6 % (nw : Int), 0, 0⟩)]) (by simp [results, Try.results44, go_sem]) rfl ⟨by rw [HX.out]; rfl, by rw [HX.out]; exact HS.out, below_alloc1 _ _⟩

set_option maxHeartbeats 2000000 in
set_option maxRecDepth 100000 in
theorem instr_10 (v nr nw : Nat) (hv : v < 1099511627776) (_hr : nr ≤ 6) (_hw6 : nw ≤ 6) (hm : (v : Int) % 11 = 9) (w : World) :
    Calls Try.prog 44 #[.int .i64 v, .int .i64 nr, .int .i64 nw] w fun e w' => e = .returned (.agg (instrN v nr nw).vals) ∧ soundB (instrN v nr nw) nr nw = true ∧ Below w.heap.size w w' := by
  have a0 : 0 ≤ (v : Int) / 11 % 6 := by omega
  have a6 : (v : Int) / 11 % 6 < 6 := by omega
  have b0 : 0 ≤ (v : Int) / 66 % 6 := by omega
  have b6 : (v : Int) / 66 % 6 < 6 := by omega
  have c0 : 0 ≤ (v : Int) / 396 % 6 := by omega
  have c6 : (v : Int) / 396 % 6 < 6 := by omega
  have d0 : 0 ≤ (v : Int) / 66 % 4 := by omega
  have d1 : (v : Int) / 66 % 4 < 4 := by omega
  have hwd : IntKind.i64.wrap (1 + (v : Int) / 66 % 4) = 1 + (v : Int) / 66 % 4 := by rw [IntKind.wrap_i64]; omega
  have HX := hide (show instrN v nr nw = ⟨10, (v : Int) / 11 % 6, 1 + (v : Int) / 66 % 4, 0⟩ by unfold instrN; simp [hm])
  have HS := hide (show soundB ⟨10, (v : Int) / 11 % 6, 1 + (v : Int) / 66 % 4, 0⟩ nr nw = true by simp [soundB, bel]; omega)
  go_enter Try.func44, Try.ntmps44
  go_wp2
  refine bodyPost_ret (v := .agg #[.int .i64 (Ins.op ⟨10, (v : Int) / 11 % 6, 1 + (v : Int) / 66 % 4, 0⟩), .int .i64 (Ins.a ⟨10, (v : Int) / 11 % 6, 1 + (v : Int) / 66 % 4, 0⟩), .int .i64 (Ins.b ⟨10, (v : Int) / 11 % 6, 1 + (v : Int) / 66 % 4, 0⟩), .int .i64 (Ins.c ⟨10, (v : Int) / 11 % 6, 1 + (v : Int) / 66 % 4, 0⟩)]) (by simp [results, Try.results44, go_sem]) rfl ⟨by rw [HX.out]; rfl, by rw [HX.out]; exact HS.out, below_alloc1 _ _⟩

set_option maxHeartbeats 2000000 in
set_option maxRecDepth 100000 in
theorem instr_11 (v nr nw : Nat) (hv : v < 1099511627776) (_hr : nr ≤ 6) (_hw6 : nw ≤ 6) (hm : (v : Int) % 11 = 10) (w : World) :
    Calls Try.prog 44 #[.int .i64 v, .int .i64 nr, .int .i64 nw] w fun e w' => e = .returned (.agg (instrN v nr nw).vals) ∧ soundB (instrN v nr nw) nr nw = true ∧ Below w.heap.size w w' := by
  have a0 : 0 ≤ (v : Int) / 11 % 6 := by omega
  have a6 : (v : Int) / 11 % 6 < 6 := by omega
  have b0 : 0 ≤ (v : Int) / 66 % 6 := by omega
  have b6 : (v : Int) / 66 % 6 < 6 := by omega
  have c0 : 0 ≤ (v : Int) / 396 % 6 := by omega
  have c6 : (v : Int) / 396 % 6 < 6 := by omega
  by_cases h0 : (v : Int) / 11 % 4 = 0
  · skip
    have HX := hide (show instrN v nr nw = ⟨11, 0, 0, 0⟩ by unfold instrN; simp [hm, h0])
    have HS := hide (show soundB ⟨11, 0, 0, 0⟩ nr nw = true by simp [soundB])
    go_enter Try.func44, Try.ntmps44
    go_wp2
    refine bodyPost_ret (v := .agg #[.int .i64 (Ins.op ⟨11, 0, 0, 0⟩), .int .i64 (Ins.a ⟨11, 0, 0, 0⟩), .int .i64 (Ins.b ⟨11, 0, 0, 0⟩), .int .i64 (Ins.c ⟨11, 0, 0, 0⟩)]) (by simp [results, Try.results44, go_sem]) rfl ⟨by rw [HX.out]; rfl, by rw [HX.out]; exact HS.out, below_alloc1 _ _⟩
  · skip
    have HX := hide (show instrN v nr nw = ⟨1, (v : Int) / 11 % 6, (v : Int) / 66 % 6, 0⟩ by unfold instrN; simp [hm, h0])
    have HS := hide (show soundB ⟨1, (v : Int) / 11 % 6, (v : Int) / 66 % 6, 0⟩ nr nw = true by simp [soundB, bel]; omega)
    go_enter Try.func44, Try.ntmps44
    go_wp2
    refine bodyPost_ret (v := .agg #[.int .i64 (Ins.op ⟨1, (v : Int) / 11 % 6, (v : Int) / 66 % 6, 0⟩), .int .i64 (Ins.a ⟨1, (v : Int) / 11 % 6, (v : Int) / 66 % 6, 0⟩), .int .i64 (Ins.b ⟨1, (v : Int) / 11 % 6, (v : Int) / 66 % 6, 0⟩), .int .i64 (Ins.c ⟨1, (v : Int) / 11 % 6, (v : Int) / 66 % 6, 0⟩)]) (by simp [results, Try.results44, go_sem]) rfl ⟨by rw [HX.out]; rfl, by rw [HX.out]; exact HS.out, below_alloc1 _ _⟩

theorem instr_any (v nr nw : Nat) (hv : v < 1099511627776) (hr : nr ≤ 6) (hw6 : nw ≤ 6) (w : World) :
    Calls Try.prog 44 #[.int .i64 v, .int .i64 nr, .int .i64 nw] w fun e w' => e = .returned (.agg (instrN v nr nw).vals) ∧ soundB (instrN v nr nw) nr nw = true ∧ Below w.heap.size w w' := by
  have c11 : (v : Int) % 11 = 0 ∨ (v : Int) % 11 = 1 ∨ (v : Int) % 11 = 2 ∨ (v : Int) % 11 = 3 ∨ (v : Int) % 11 = 4 ∨ (v : Int) % 11 = 5 ∨ (v : Int) % 11 = 6 ∨ (v : Int) % 11 = 7 ∨ (v : Int) % 11 = 8 ∨ (v : Int) % 11 = 9 ∨ (v : Int) % 11 = 10 := by omega
  rcases c11 with h | h | h | h | h | h | h | h | h | h | h
  · exact instr_1 v nr nw hv hr hw6 h w
  · exact instr_2 v nr nw hv hr hw6 h w
  · exact instr_3 v nr nw hv hr hw6 h w
  · exact instr_4 v nr nw hv hr hw6 h w
  · exact instr_5 v nr nw hv hr hw6 h w
  · exact instr_6 v nr nw hv hr hw6 h w
  · exact instr_7 v nr nw hv hr hw6 h w
  · exact instr_8 v nr nw hv hr hw6 h w
  · exact instr_9 v nr nw hv hr hw6 h w
  · exact instr_10 v nr nw hv hr hw6 h w
  · exact instr_11 v nr nw hv hr hw6 h w

end Go.Proofs.Ytlheloogmgmjnaa
