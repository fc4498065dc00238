import Derived.Test.YtlheloogmgmjnaaT31
import Derived.Test.YtlheloogmgmjnaaT33
import Derived.Test.YtlheloogmgmjnaaT27
import Derived.Test.YtlheloogmgmjnaaT08
namespace Go.Proofs.Ytlheloogmgmjnaa
open Go.RowKit

theorem KeptS.closed {M M' : SM} (h : KeptS M M') : M'.closed = M.closed := by unfold SM.closed; rw [h.ends]

/-- A round of all makers and doers that began at M0, as far as it has come. -/
structure TurnB (M0 M : SM) (j : Nat) : Prop where
  kept : KeptS M0 M
  mks : ∀ (i : Nat) (a b : SMk), i < j → M0.mks[i]? = some a → M.mks[i]? = some b → a.dealt < M0.closed → a.dealt + 1 ≤ b.dealt
  same : (∀ m ∈ M0.mks, ¬ m.dealt < M0.closed) → (M = M0 ∧ ∀ (n : Nat) (d : SDo), M0.mks.length + n < j → M0.dos[n]? = some d → M0.actsD d = false) ∨ M.work < M0.work

theorem TurnB.start (M : SM) : TurnB M M 0 := ⟨KeptS.refl M, fun _ _ _ h => by omega, fun _ => Or.inl ⟨rfl, fun _ _ h => by omega⟩⟩

theorem TurnB.step {M0 M M' : SM} {j : Nat} {z : Bool} (h : TurnB M0 M j) (hs : StepB M M' (j : Int) z) (hj : j < M0.mks.length + M0.dos.length) : TurnB M0 M' (j + 1) := by
  refine ⟨h.kept.trans hs.kept, ?_, ?_⟩
  · intro i a b hi ha hb hlt
    have hil : i < M.mks.length := by rw [h.kept.mks]; exact lt_of_some ha
    have hm := List.getElem?_eq_getElem hil
    have k2 := hs.kept.dealt i _ b hm hb
    by_cases e : i < j
    · have := h.mks i a _ e ha hm hlt
      omega
    · obtain rfl : i = j := by omega
      have k1 := h.kept.dealt i a _ ha hm
      obtain ⟨_, q2, _⟩ := hs.maker i _ rfl hm
      by_cases hc : (M.mks[i]).dealt < M.closed
      · have := q2 hc b hb; omega
      · rw [h.kept.closed] at hc; omega
  · intro hd
    rcases h.same hd with ⟨rfl, q⟩ | q
    · by_cases hjm : j < M.mks.length
      · have hm := List.getElem?_eq_getElem hjm
        have := (hs.maker j _ rfl hm).2.2 (hd _ (List.getElem_mem hjm))
        exact Or.inl ⟨this, fun n d hn => by omega⟩
      · obtain ⟨n, rfl⟩ : ∃ n, j = M.mks.length + n := ⟨j - M.mks.length, by omega⟩
        have hnl : n < M.dos.length := by omega
        have hx := List.getElem?_eq_getElem hnl
        obtain ⟨z1, z2, z3, _⟩ := hs.doer n _ (by omega) hx
        cases hz : z with
        | false =>
          refine Or.inl ⟨z2 hz, fun n' d' hn' hd' => ?_⟩
          by_cases e : n' = n
          · subst e
            rw [hx] at hd'
            obtain rfl := Option.some.inj hd'
            rw [← z1, hz]
          · exact q n' d' (by omega) hd'
        | true => exact Or.inr (z3 hz)
    · exact Or.inr (Nat.lt_of_le_of_lt hs.kept.work q)

theorem TurnB.work {M0 M : SM} {G : Nat → Nat} (hb : BRel M0 G) (h : TurnB M0 M (M0.mks.length + M0.dos.length)) (hd : ∀ m ∈ M0.mks, m.dealt = M0.recs.length) (hcl : M0.closed = M0.recs.length) (hdo : 1 ≤ M0.dos.length) : M.work = 0 ∨ M.work < M0.work := by
  rcases h.same (fun m hm => by rw [hd m hm, hcl]; omega) with ⟨rfl, q⟩ | q
  · refine Or.inl (Classical.byContradiction fun hw => ?_)
    obtain ⟨n, d, hn, ha⟩ := hb.goes hd hcl hdo (by omega)
    rw [q n d (by have := lt_of_some hn; omega) hn] at ha
    exact Bool.noConfusion ha
  · exact Or.inr q

/-- Behind r rounds: n transactions, W work at first. -/
structure Rounds (W n r : Nat) (M : SM) : Prop where
  dealt : ∀ m ∈ M.mks, min r n ≤ m.dealt
  work : M.work ≤ W - (r - n)

theorem Rounds.next {W n r : Nat} {M0 M : SM} {G : Nat → Nat} (h : Rounds W n r M0) (hb : BRel M0 G) (ht : TurnB M0 M (M0.mks.length + M0.dos.length)) (hn : M0.recs.length = n) (hcl : M0.closed = n) (hdo : 1 ≤ M0.dos.length) : Rounds W n (r + 1) M := by
  refine ⟨fun m hm => ?_, ?_⟩
  · obtain ⟨i, hi, rfl⟩ := List.getElem_of_mem hm
    have hi0 : i < M0.mks.length := by rw [← ht.kept.mks]; exact hi
    have e1 := List.getElem?_eq_getElem hi
    have e0 := List.getElem?_eq_getElem hi0
    have k := ht.kept.dealt i _ _ e0 e1
    have r0 := h.dealt _ (List.getElem_mem hi0)
    by_cases hlt : (M0.mks[i]).dealt < M0.closed
    · have := ht.mks i _ _ (by omega) e0 e1 hlt
      omega
    · omega
  · have hk := ht.kept.work
    have h0 := h.work
    by_cases hr : r < n
    · omega
    · have hd : ∀ m ∈ M0.mks, m.dealt = M0.recs.length := fun m hm => by
        have h1 := h.dealt m hm
        have h2 := hb.dealtle m hm
        omega
      rcases ht.work hb hd (by omega) hdo with q | q <;> omega

theorem Rounds.start {W n : Nat} {M : SM} (h : M.work ≤ W) : Rounds W n 0 M := ⟨fun m _ => by omega, by omega⟩

/-- All has been done. -/
structure RestB (M : SM) : Prop where
  dealt : ∀ m ∈ M.mks, m.dealt = M.recs.length
  work : M.work = 0
  closed : M.closed = M.recs.length
theorem Rounds.rest {W n : Nat} {M : SM} {G : Nat → Nat} (h : Rounds W n (n + W) M) (hb : BRel M G) (hn : M.recs.length = n) (hcl : M.closed = n) : RestB M := by
  refine ⟨fun m hm => ?_, ?_, by omega⟩
  · have h1 := h.dealt m hm
    have h2 := hb.dealtle m hm
    omega
  · have := h.work
    omega

theorem takeWhile_each {α : Type} (p : α → Bool) : ∀ l : List α, (∀ x ∈ l, p x = true) → l.takeWhile p = l
  | [], _ => rfl
  | x :: l, h => by rw [List.takeWhile_cons, h x (by simp), if_pos rfl, takeWhile_each p l (fun y hy => h y (by simp [hy]))]
theorem ends_le_closed {M : SM} {G : Nat → Nat} (hb : BRel M G) : ∀ e ∈ M.ends, e ≤ M.closed := by
  rw [SM.closed_eq]; exact ends_le_last hb.rise
theorem whole_all {M : SM} {G : Nat → Nat} (hb : BRel M G) {n : Nat} (h : M.closed ≤ n) : wholeB M.ends n = M.ends.length := by
  unfold wholeB
  rw [takeWhile_each _ _ (fun e he => decide_eq_true (by have := ends_le_closed hb e he; omega))]
theorem RestB.least {M : SM} {G : Nat → Nat} (h : RestB M) (hb : BRel M G) : M.recs.length ≤ M.least := (SM.le_least hb.mks1 _).2 (fun m hm => by rw [h.dealt m hm]; exact Nat.le_refl _)
theorem RestB.ready {M : SM} {G : Nat → Nat} (h : RestB M) (hb : BRel M G) : M.ready = M.ends.length := whole_all hb (by have := h.least hb; have := h.closed; omega)
theorem RestB.last {M : SM} {G : Nat → Nat} (h : RestB M) (hb : BRel M G) : M.last = M.recs.length := by
  unfold SM.last; rw [h.ready hb]; exact h.closed
theorem RestB.done {M : SM} {G : Nat → Nat} (h : RestB M) (hb : BRel M G) : M.done = M.recs.length := by
  unfold SM.done doneN
  rw [takeWhile_each _ _ (hb.rests h.work).2.2]
theorem RestB.mark {M : SM} {G : Nat → Nat} (h : RestB M) (hb : BRel M G) : M.mark = M.recs.length := by
  have e : doneN M.recs = M.recs.length := h.done hb
  unfold SM.mark
  rw [e, whole_all hb (by have := h.closed; omega)]
  exact h.closed
theorem RestB.acts {M : SM} {G : Nat → Nat} (h : RestB M) (hb : BRel M G) : ∀ d ∈ M.dos, M.actsD d = false := by
  intro d hd
  obtain ⟨h1, h2, _⟩ := hb.rests h.work
  unfold SM.actsD
  rw [if_pos (h2 d hd), h1, h.last hb]
  simp
/-- No maker and no doer does anything. -/
theorem RestB.step {M M' : SM} {G : Nat → Nat} (h : RestB M) (hb : BRel M G) {i : Int} {z : Bool} (hs : StepB M M' i z) (hi : i < (M.mks.length : Int) + M.dos.length) : z = false ∧ M' = M := by
  by_cases h0 : i < 0
  · exact hs.off h0
  · by_cases h1 : i < M.mks.length
    · obtain ⟨n, rfl⟩ : ∃ n : Nat, i = n := ⟨i.toNat, by omega⟩
      have hn : n < M.mks.length := by omega
      obtain ⟨q1, _, q3⟩ := hs.maker n _ rfl (List.getElem?_eq_getElem hn)
      have hlt : ¬ (M.mks[n]).dealt < M.closed := by rw [h.dealt _ (List.getElem_mem hn), h.closed]; omega
      exact ⟨by rw [q1]; exact decide_eq_false hlt, q3 hlt⟩
    · obtain ⟨n, rfl⟩ : ∃ n : Nat, i = (M.mks.length : Int) + n := ⟨(i - M.mks.length).toNat, by omega⟩
      have hn : n < M.dos.length := by omega
      obtain ⟨q1, q2, _⟩ := hs.doer n _ rfl (List.getElem?_eq_getElem hn)
      have := h.acts hb _ (List.getElem_mem hn)
      rw [this] at q1
      exact ⟨q1, q2 q1⟩

theorem done_le (M : SM) : M.done ≤ M.recs.length := takeWhile_le _ _
theorem ready_le (M : SM) : M.ready ≤ M.ends.length := takeWhile_le _ _
theorem mark_le {M : SM} {G : Nat → Nat} (hb : BRel M G) : M.mark ≤ M.done := last_le hb.rise _
theorem BRel.dealt1000 {w : World} {M : SM} {G : Nat → Nat} (hb : BRel M G) (h : SAt w M) : ∀ m ∈ M.mks, m.dealt ≤ 1000 := fun m hm => by
  have h1 := hb.dealtle m hm
  have h2 := hb.closedle
  have h3 := h.txns
  omega
theorem vsl_len {w : World} {M : SM} (h : SAt w M) : sumTo (fun k => (M.vsl k).n) 24 = sumTo (fun k => (M.vs k).length) 24 := sumTo_congr 24 (fun k hk => (h.vers k hk).n)
theorem BRel.live_bound {w : World} {M : SM} {G : Nat → Nat} (hb : BRel M G) (h : SAt w M) (n : Nat) : sumTo (fun i => Go.Proofs.Ytlheloogmgmjnaa.liveOf (M.mapOf i)) n ≤ 100000 := by
  rw [sumTo_congr n (fun i _ => SM.live_of M i)]
  have h1 := Go.Proofs.Ytlheloogmgmjnaa.live_le (fun k => (M.vsl k).n) M.mks.length 24 n
  rw [vsl_len h] at h1
  have h2 := hb.live_le
  have h3 := hb.taken500
  omega
theorem live_sum {w : World} {M : SM} (h : SAt w M) : M.live = sumTo (fun k => (M.vs k).length) 24 := by
  unfold SM.live
  rw [sumTo_congr M.mks.length (fun i _ => SM.live_of M i), sumTo_parts (fun k => (M.vsl k).n) M.mks.length 24 M.mks.length (Nat.le_refl _), ← vsl_len h]
  exact sumTo_congr 24 (fun k _ => if_pos (Nat.mod_lt _ h.mk1))
theorem BRel.taken_le {M : SM} {G : Nat → Nat} (hb : BRel M G) : M.taken ≤ (M.txs.map (·.w.length)).sum := by have := hb.taken; omega

theorem b_new (gb gm gd p d : Nat) (mbs : List Nat) (hp1 : 1 ≤ p) (hl : mbs.length = p) : BRel (newSM gb gm gd p d 500 mbs) (fun _ => 0) := by
  have hd : ∀ m ∈ (newSM gb gm gd p d 500 mbs).mks, m.dealt = 0 := fun m hm => by
    obtain ⟨g, _, rfl⟩ := List.mem_map.1 (show m ∈ mbs.map (fun g => (⟨0, g⟩ : SMk)) from hm)
    rfl
  have hdo : ∀ (i : Nat) (x : SDo), (newSM gb gm gd p d 500 mbs).dos[i]? = some x → x.txn = 0 := fun i x hx => by
    have := (List.mem_replicate.1 (List.mem_of_getElem? (show (List.replicate d (⟨0, Mac.zero⟩ : SDo))[i]? = some x from hx))).2
    rw [this]
  exact
    { room := rfl
      chk := fun t ht => by simp [newSM] at ht
      txl := rfl
      taken := by rw [sumTo_zero]; rfl
      fits := Nat.zero_le _
      pos := fun e he => by simp [newSM] at he
      rise := List.Pairwise.nil
      closedle := Nat.le_refl _
      mks1 := by show 1 ≤ (mbs.map _).length; rw [List.length_map]; omega
      dealtle := fun m hm => by rw [hd m hm]; exact Nat.zero_le _
      takenle := Nat.zero_le _
      sorted := fun k => List.Pairwise.nil
      vtxn := fun k x hx => by simp [newSM] at hx
      placed := fun k x hx => by simp [newSM] at hx
      count := fun k => by simp [newSM]
      dle := fun i x hx => by rw [hdo i x hx]; exact Nat.zero_le _
      doer := fun i x m _ hx h => by rw [hdo i x hx] at h; cases h
      hands := fun i j x y hx _ _ h => absurd (hdo i x hx) h
      fresh := fun m r hr => by simp [newSM] at hr
      undone := fun m r hr => by simp [newSM] at hr }

end Go.Proofs.Ytlheloogmgmjnaa

namespace Go.Proofs.Ytlheloogmgmjnaa
open Go.RowKit

/-- A store in memory behind w0. -/
structure BAt (w0 w : World) (M : SM) (G : Nat → Nat) : Prop where
  s : SAt w M
  r : BRel M G
  below : Below w0.heap.size w0 w
  far : ∀ k ∈ M.foot, w0.heap.size ≤ k
theorem BAt.on {w0 w w' : World} {M : SM} {G : Nat → Nat} (h : BAt w0 w M G) (hb : Below w.heap.size w w') : BAt w0 w' M G := ⟨h.s.below hb, h.r, below_on h.below hb, h.far⟩
theorem BAt.turned {w0 w w' : World} {M M' : SM} {G G' : Nat → Nat} (h : BAt w0 w M G) (hs : SAt w' M') (hr : BRel M' G') (hc : Chg w w' (fun k => k ∈ M.mut)) (hf : ∀ k ∈ M'.foot, k ∈ M.foot ∨ w.heap.size ≤ k) : BAt w0 w' M' G' :=
  ⟨hs, hr, h.below.trans (hc.belowB (fun k hk => h.far k (SM.mem_foot.2 (Or.inl hk))) h.below.size), fun k hk => (hf k hk).elim (h.far k) (fun q => Nat.le_trans h.below.size q)⟩

def SM.told (M : SM) : Array Value := #[.int .i64 M.recs.length, .int .i64 M.ends.length, .int .i64 M.ready, .int .i64 M.done, .int .i64 M.mark, .int .i64 M.taken, .int .i64 M.live]
theorem bshow_any {w0 w : World} {M : SM} {G : Nat → Nat} (h : BAt w0 w M G) : Calls Try.prog 12 #[.pointer (some ⟨M.b, 0, none⟩)] w fun e w' => e = .returned (.agg M.told) ∧ BAt w0 w' M G :=
  (sShow_any M w h.s (h.r.dealt1000 h.s) (h.r.live_bound h.s)).mono fun _ _ ⟨he, hb⟩ => ⟨he, h.on hb⟩
theorem bstep_any {w0 w : World} {M : SM} {G : Nat → Nat} (h : BAt w0 w M G) (i : Int) : Calls Try.prog 11 #[.pointer (some ⟨M.b, 0, none⟩), .int .i64 i] w fun e w' => ∃ (z : Bool) (M' : SM) (G' : Nat → Nat), e = .returned (.bool z) ∧ BAt w0 w' M' G' ∧ StepB M M' i z :=
  (bStep_any M G h.r w h.s i).mono fun _ _ ⟨z, M', G', he, hs, hr, hb, hc, hf⟩ => ⟨z, M', G', he, h.turned hs hr hc hf, hb⟩

set_option maxHeartbeats 1000000 in
theorem size_any (c d : Int) (hc : inI64 c) (hd : inI64 d) (w : World) :
    Calls Try.prog 15 #[.int .i64 c, .int .i64 d] w fun e w' => e = .returned (.tuple #[.int .i64 (1 + pickN c 8 : Nat), .int .i64 (1 + pickN d 6 : Nat)]) ∧ w' = w := by
  have h1 := pickN_lt c (n := 8) (by omega)
  have h2 := pickN_lt d (n := 6) (by omega)
  have P1 := hide (pick_any c 8 hc (by omega))
  have P2 := hide (pick_any d 6 hd (by omega))
  generalize pickN c 8 = p at *
  generalize pickN d 6 = q at *
  have w1 : IntKind.i64.wrap (1 + (p : Int)) = ((1 + p : Nat) : Int) := by rw [IntKind.wrap_i64]; omega
  have w2 : IntKind.i64.wrap (1 + (q : Int)) = ((1 + q : Nat) : Int) := by rw [IntKind.wrap_i64]; omega
  clear hc hd
  go_enter Try.func15, Try.ntmps15
  go_wp2_with fail
  refine (P1.out _).mono ?_
  rintro e v1 ⟨rfl, hv1⟩
  rw [hv1]; clear hv1
  go_wp2_with fail
  refine (P2.out _).mono ?_
  rintro e v2 ⟨rfl, hv2⟩
  rw [hv2]; clear hv2
  go_wp2
  exact bodyPost_ret (v := .tuple #[.int .i64 (1 + p : Nat), .int .i64 (1 + q : Nat)]) (by simp [results, Try.results15, go_sem]) rfl ⟨rfl, rfl⟩

end Go.Proofs.Ytlheloogmgmjnaa

namespace Go.Proofs.Ytlheloogmgmjnaa
open Go.RowKit

/-- A store in which transactions l have come in, and no step was made. -/
structure Fil (M : SM) (p d : Nat) (l : List Tx) : Prop where
  txs : M.txs = l
  took : M.took = 0
  vs : ∀ k, M.vs k = []
  mks : M.mks.length = p
  dos : M.dos.length = d
  idle : ∀ x ∈ M.dos, x.txn = 0

theorem fil_new (gb gm gd p d : Nat) (mbs : List Nat) (hl : mbs.length = p) : Fil (newSM gb gm gd p d 500 mbs) p d [] :=
  ⟨rfl, rfl, fun _ => rfl, by show (mbs.map _).length = p; rw [List.length_map, hl], List.length_replicate .., fun x hx => by rw [(List.mem_replicate.1 (show x ∈ List.replicate d (⟨0, Mac.zero⟩ : SDo) from hx)).2]⟩
theorem Fil.live {w : World} {M : SM} {p d : Nat} {l : List Tx} (h : Fil M p d l) (hs : SAt w M) : M.live = 0 := by
  rw [live_sum hs, sumTo_congr 24 (h' := fun _ => 0) (fun k _ => by rw [h.vs k]; rfl), sumTo_zero]
theorem told_new {w : World} (gb gm gd p d : Nat) (mbs : List Nat) (hl : mbs.length = p) (hs : SAt w (newSM gb gm gd p d 500 mbs)) : (newSM gb gm gd p d 500 mbs).told = #[.int .i64 0, .int .i64 0, .int .i64 0, .int .i64 0, .int .i64 0, .int .i64 0, .int .i64 0] := by
  have h1 := (fil_new gb gm gd p d mbs hl).live hs
  unfold SM.told
  rw [h1]
  rfl

theorem foot_new (gb gm gd p d r : Nat) (mbs : List Nat) : ∀ k ∈ (newSM gb gm gd p d r mbs).foot, k ∈ gb :: gm :: gd :: mbs := by
  intro k hk
  rcases SM.mem_foot.1 hk with hk | ⟨q, hq, _⟩
  · rcases SM.mem_mut.1 hk with hk | ⟨j, _, hk⟩
    · simp only [SM.base, newSM, Sl.blk, Sl.nil, List.mem_cons, List.mem_append, List.mem_map, List.not_mem_nil, false_or, or_false] at hk
      simp only [List.mem_cons]
      rcases hk with hk | hk | hk | ⟨q, ⟨g, hg, rfl⟩, hk⟩
      · exact Or.inl hk
      · exact Or.inr (Or.inl hk)
      · exact Or.inr (Or.inr (Or.inl hk))
      · exact Or.inr (Or.inr (Or.inr (hk ▸ hg)))
    · simp [newSM, SM.vsl, Sl.nil, Sl.blk] at hk
  · simp [newSM] at hq

set_option maxHeartbeats 4000000 in
set_option maxRecDepth 100000 in
theorem opened_any (c d : Int) (hc : inI64 c) (hd : inI64 d) (w : World) :
    Calls Try.prog 24 #[.int .i64 c, .int .i64 d] w fun e w' => ∃ M, e = .returned (.tuple #[.pointer (some ⟨M.b, 0, none⟩), .bool true]) ∧ BAt w w' M (fun _ => 0) ∧ Fil M (1 + pickN c 8) (1 + pickN d 6) [] ∧ M.recs = [] ∧ M.ends = [] := by
  have h1 := pickN_lt c (n := 8) (by omega)
  have h2 := pickN_lt d (n := 6) (by omega)
  have SZ := hide (size_any c d hc hd)
  generalize pickN c 8 = p at *
  generalize pickN d 6 = q at *
  have NW := hide (sNew_yes (1 + p) (1 + q) 500 w ⟨by omega, by omega, by omega, by omega, by omega, by omega⟩)
  clear hc hd
  go_enter Try.func24, Try.ntmps24
  go_wp2_with fail
  refine (SZ.out _).mono ?_
  rintro e v1 ⟨rfl, hv1⟩
  rw [hv1]; clear hv1
  go_wp2_with fail
  refine NW.out.mono ?_
  rintro e w1 ⟨b, gm, gd, mbs, rfl, hl, hs, hk, hb⟩
  have BA := hide (show BAt w w1 (newSM b gm gd (1 + p) (1 + q) 500 mbs) (fun _ => 0) from ⟨hs, b_new _ _ _ _ _ _ (by omega) hl, hb, fun k hkf => by
    exact hk k (foot_new _ _ _ _ _ _ _ k hkf)⟩)
  have SH := hide (fun wx (hx : BAt w wx (newSM b gm gd (1 + p) (1 + q) 500 mbs) (fun _ => 0)) => bshow_any hx)
  rw [told_new _ _ _ _ _ _ hl hs] at SH
  have FI := hide (fil_new b gm gd (1 + p) (1 + q) mbs hl)
  clear hs hk hb hl
  go_wp2_with fail
  go_region_with (go_at_call 12; refine (SH.out _ (BA.out.on (by first | exact Below.refl _ _ | exact (Below.refl _ _).drew))).mono ?_; rintro e w2 ⟨rfl, hb2⟩; have B2 := hide hb2; clear hb2)
  go_wp2
  exact bodyPost_ret (v := .tuple #[.pointer (some ⟨b, 0, none⟩), .bool true]) (by simp [results, Try.results24, go_sem]) rfl ⟨_, rfl, B2.out, FI.out, rfl, rfl⟩

end Go.Proofs.Ytlheloogmgmjnaa

namespace Go.Proofs.Ytlheloogmgmjnaa
open Go.RowKit

theorem Try.info25 : (Try.prog.info? 25).map (fun i => (i.zero, i.size, i.bytes)) = some (some (.agg #[.slice none 0 0, .slice none 0 0, .slice none 0 0]), 3, 72) := by kernel_rfl
theorem Try.underlying32 : Try.prog.underlying 32 = some (.slice 25) := by kernel_rfl

/-- Raw numbers, a row each. -/
structure RowV where
  a : Option Addr
  c : Nat
  xs : List Int
def RowV.zero : RowV := ⟨none, 0, []⟩
def RowsAt (w : World) (ao : Option Addr) (rs : List RowV) : Prop :=
  rs = [] ∨ ∃ b o, ao = some ⟨b, o, none⟩ ∧ ∀ i, i < rs.length → w.cell? ⟨b, o + i, none⟩ = some (.slice (rs.getD i RowV.zero).a (rs.getD i RowV.zero).xs.length (rs.getD i RowV.zero).c) ∧ IntsAt w (rs.getD i RowV.zero).a (rs.getD i RowV.zero).xs ∧ (∀ x ∈ (rs.getD i RowV.zero).xs, inI64 x) ∧ (rs.getD i RowV.zero).xs.length ≤ 9223372036854775807
theorem RowsAt.at {w : World} {ao : Option Addr} {rs : List RowV} (h : RowsAt w ao rs) {k : Nat} (hk : k < rs.length) : ∃ b o, ao = some ⟨b, o, none⟩ ∧ ∀ w', Below w.heap.size w w' → ∀ i, i < rs.length → ∃ r : RowV, w'.cell? ⟨b, o + i, none⟩ = some (.slice r.a r.xs.length r.c) ∧ IntsAt w' r.a r.xs ∧ (∀ x ∈ r.xs, inI64 x) ∧ r.xs.length ≤ 9223372036854775807 := by
  rcases h with h | ⟨b, o, rfl, hc⟩
  · subst h; simp at hk
  · refine ⟨b, o, rfl, fun w' hb i hi => ⟨rs.getD i RowV.zero, ?_⟩⟩
    obtain ⟨h1, h2, h3, h4⟩ := hc i hi
    exact ⟨cell_below hb (Nat.le_refl _) h1, h2.below hb, h3, h4⟩

/-- Transactions, one behind the other. -/
def txCells (l : List (TH × Tx)) : List Value := l.flatMap fun p => p.1.cells.toList
structure SpxAt (w0 w : World) (s : Sl) (l : List (TH × Tx)) : Prop where
  own : Own w 25 3 s (txCells l)
  n : s.n = l.length
  tx : ∀ p ∈ l, OwnTx w p.1 p.2 ∧ checkN p.2 = 0 ∧ (∀ k ∈ p.1.blks, k ∉ s.blk)
  below : Below w0.heap.size w0 w
  far : ∀ k ∈ s.blk, w0.heap.size ≤ k

theorem SpxAt.on {w0 w w' : World} {s : Sl} {l : List (TH × Tx)} (h : SpxAt w0 w s l) (hb : Below w.heap.size w w') : SpxAt w0 w' s l :=
  ⟨h.own.below hb, h.n, fun p hp => ⟨(h.tx p hp).1.below hb, (h.tx p hp).2⟩, below_on h.below hb, h.far⟩

theorem SpxAt.more {w0 w w1 : World} {s s1 : Sl} {l : List (TH × Tx)} (h : SpxAt w0 w s l) {hd : TH} {t : Tx} (ho : OwnTx w hd t) (hc : checkN t = 0) (hx : ∀ k ∈ hd.blks, k ∉ s.blk) (ow : Own w1 25 3 s1 (txCells l ++ hd.cells.toList)) (sn : s1.n = s.n + 1) (ch : Chg w w1 (fun k => k ∈ s.blk)) (bl : ∀ k ∈ s1.blk, k ∈ s.blk ∨ w.heap.size ≤ k) : SpxAt w0 w1 s1 (l ++ [(hd, t)]) := by
  have key : ∀ (hd : TH) (t : Tx), OwnTx w hd t → checkN t = 0 → (∀ k ∈ hd.blks, k ∉ s.blk) → OwnTx w1 hd t ∧ checkN t = 0 ∧ (∀ k ∈ hd.blks, k ∉ s1.blk) := fun hd t ho hc hx =>
    ⟨ho.chg ch hx, hc, fun k hk hk1 => by
      rcases bl k hk1 with q | q
      · exact hx k hk q
      · have := ho.blk_lt k hk; omega⟩
  refine ⟨by simpa [txCells] using ow, by rw [sn, h.n]; simp, ?_, h.below.trans (ch.belowB (fun k hk => h.far k hk) h.below.size), ?_⟩
  · intro p hp
    rcases List.mem_append.1 hp with hp | hp
    · obtain ⟨q1, q2, q3⟩ := h.tx p hp
      exact key _ _ q1 q2 q3
    · rw [List.mem_singleton.1 hp]; exact key hd t ho hc hx
  · intro k hk
    rcases bl k hk with q | q
    · exact h.far k q
    · exact Nat.le_trans h.below.size q

set_option maxHeartbeats 4000000 in
set_option maxRecDepth 100000 in
theorem spelt_any (ao : Option Addr) (cap : Nat) (rs : List RowV) (w : World) (hx : RowsAt w ao rs) :
    Calls Try.prog 9 #[.slice ao rs.length cap] w fun e w' => ∃ (s : Sl) (l : List (TH × Tx)), e = .returned (.slice s.a s.n s.c) ∧ l.length ≤ 40 ∧ SpxAt w w' s l := by
  obtain ⟨i0, hi, hz0, hz1, hz2⟩ := info_parts Try.info25
  have HX := hide hx
  clear hx
  go_enter Try.func9, Try.ntmps9
  go_wp2_with fail
  go_loopw [3, 4] (fun out iv wr => ∃ (i : Nat) (s : Sl) (l : List (TH × Tx)), i ≤ rs.length ∧ i ≤ 40 ∧ l.length = i ∧ iv = .int .i64 i ∧ out = .slice s.a s.n s.c ∧ SpxAt w wr s l) (fun _ iv _ => 40 - (intOf iv).toNat)
  case atStart => exact ⟨0, Sl.nil, [], Nat.zero_le _, Nat.zero_le _, rfl, rfl, rfl, ⟨Own.nil _ _ _, rfl, by simp, Below.refl _ _, by simp [Sl.nil, Sl.blk]⟩⟩
  case round =>
    obtain ⟨i, s, l, hi5, hi40, hll, rfl, rfl, ht⟩ := hrel
    have T0 := hide ht
    clear ht
    by_cases hil : i < rs.length
    · by_cases h40 : i < 40
      · have hil' : (i : Int) < rs.length := by omega
        have h40' : (i : Int) < 40 := by omega
        have hwi : IntKind.i64.wrap ((i : Int) + 1) = ((i + 1 : Nat) : Int) := by rw [IntKind.wrap_i64]; omega
        obtain ⟨b, o, rfl, hrow⟩ := HX.out.at hil
        obtain ⟨⟨ra, rc, xs⟩, hc, hin, hr, hl⟩ := hrow wr T0.out.below i hil
        have SP := hide (Spelt_any ra rc xs wr hin hr hl)
        clear hin hr hrow
        simp only at hc
        go_wp2_with fail
        refine SP.out.mono ?_
        rintro e w1 ⟨⟨⟨a1, n1, c1⟩, ⟨a2, n2, c2⟩, ⟨a3, n3, c3⟩⟩, t, rfl, ho, hck, hfar, hb⟩
        simp only [TH.cells]
        have T1 := hide (T0.out.on hb)
        have HB1 := hide (below_alloc1 w1 (.cells #[.slice a1 n1 c1, .slice a2 n2 c2, .slice a3 n3 c3] 25))
        have HB2 := hide (below_alloc1 (w1.alloc (.cells #[.slice a1 n1 c1, .slice a2 n2 c2, .slice a3 n3 c3] 25)) (.cells #[.slice a1 n1 c1, .slice a2 n2 c2, .slice a3 n3 c3] 25))
        have T3 := hide ((T1.out.on HB1.out).on HB2.out)
        have O3 := hide ((ho.below HB1.out).below HB2.out)
        have P3 := hide (rowAt_alloc (w1.alloc (.cells #[.slice a1 n1 c1, .slice a2 n2 c2, .slice a3 n3 c3] 25)) [.slice a1 n1 c1, .slice a2 n2 c2, .slice a3 n3 c3] 25)
        have XX := hide (show ∀ k ∈ TH.blks ⟨⟨a1, n1, c1⟩, ⟨a2, n2, c2⟩, ⟨a3, n3, c3⟩⟩, k ∉ s.blk from fun k hk hs => by have := hfar k hk; have := T0.out.own.blk_lt k hs; omega)
        have CK := hide hck
        have MM := hide (show s.n + 1 ≤ maxLen by rw [T0.out.n, hll]; unfold maxLen; omega)
        have QQ := hide (show (s.n + 1) * 72 ≤ 140737488355328 by rw [T0.out.n, hll]; omega)
        clear ho hck hfar hb HB1 HB2
        go_wp2_with (at_builtin; refine wpList_append_sl rfl (.tmp 21) (.tmp 23) 32 rfl 25 i0 (.agg #[.slice none 0 0, .slice none 0 0, .slice none 0 0]) 3 72 Try.underlying32 hi hz0 hz1 hz2 rfl (by decide) s (txCells l) rfl T3.out.own (some ⟨w1.heap.size + 1, 0, none⟩) 1 1 [.slice a1 n1 c1, .slice a2 n2 c2, .slice a3 n3 c3] rfl rfl (by simp) (fun ad had q u hu => by cases had; rw [addr_add, Nat.zero_add]; have := P3.out.cell' hu; simpa using this) (thRow_oneCell ⟨a1, n1, c1⟩ ⟨a2, n2, c2⟩ ⟨a3, n3, c3⟩) MM.out QQ.out ?_; intro s7 w7 ow7 sn7 ch7 bl7; have OW := hide ow7; have SN := hide sn7; have CH := hide ch7; have BL := hide bl7; clear ow7 sn7 ch7 bl7)
        go_roundw
        case rel => exact ⟨i + 1, s7, _, by omega, by omega, by rw [List.length_append, hll]; rfl, by go_num, rfl, T3.out.more O3.out CK.out XX.out OW.out SN.out CH.out (fun k hk => (BL.out k hk).imp id (fun e => by rw [e]; exact Nat.le_refl _))⟩
        case measure => simp [intOf]; omega
      · have hil' : (i : Int) < rs.length := by omega
        have h40' : ¬ (i : Int) < 40 := by omega
        go_wp2
        go_ret
        exact ⟨s, rfl, l, by omega, T0.out⟩
    · have hil' : ¬ (i : Int) < rs.length := by omega
      go_wp2
      go_ret
      exact ⟨s, rfl, l, by omega, T0.out⟩

end Go.Proofs.Ytlheloogmgmjnaa

namespace Go.Proofs.Ytlheloogmgmjnaa
open Go.RowKit

theorem BRel.ends_closed {M : SM} {G : Nat → Nat} (h : BRel M G) : M.ends.length ≤ M.closed := by
  have key : ∀ (l : List Nat), l.Pairwise (· < ·) → (∀ e ∈ l, 1 ≤ e) → ∀ i (hi : i < l.length), i + 1 ≤ l[i] := by
    intro l hp h1 i
    induction i with
    | zero => intro hi; exact h1 _ (List.getElem_mem hi)
    | succ i ih =>
      intro hi
      have h2 := ih (by omega)
      have h3 := List.pairwise_iff_getElem.1 hp i (i + 1) (by omega) hi (by omega)
      omega
  rw [SM.closed_eq]
  by_cases h0 : M.ends.length = 0
  · omega
  · have := key M.ends h.rise h.pos (M.ends.length - 1) (by omega)
    rw [nat_get (by omega)]
    omega
theorem SM.closed_withEnd (M : SM) (s : Sl) : (M.withEnd s).closed = M.recs.length := by
  rw [SM.closed_eq]
  simp [SM.withEnd, List.getD]
theorem six {t : Tx} (h : checkN t = 0) : t.w.length ≤ 6 := by
  have h1 : longB t = false := by
    cases hl : longB t with
    | false => rfl
    | true => unfold checkN at h; rw [hl] at h; simp at h
  simp [longB] at h1
  omega
theorem sum_six : ∀ (l : List Tx), (∀ t ∈ l, checkN t = 0) → (l.map (·.w.length)).sum ≤ 6 * l.length
  | [], _ => Nat.le_refl _
  | t :: l, h => by
    have h1 := sum_six l (fun x hx => h x (by simp [hx]))
    have h2 := six (h t (by simp))
    rw [List.map_cons, List.sum_cons, List.length_cons]
    omega

theorem Fil.taken {M : SM} {p d : Nat} {l : List Tx} (h : Fil M p d l) (hb : BRel M (fun _ => 0)) : M.taken = (l.map (·.w.length)).sum := by
  have := hb.taken
  rw [sumTo_zero, h.txs] at this
  omega
theorem Fil.recs {M : SM} {p d : Nat} {l : List Tx} (h : Fil M p d l) (hb : BRel M (fun _ => 0)) : M.recs.length = l.length := by rw [← hb.txl, h.txs]
theorem Fil.done {M : SM} {p d : Nat} {l : List Tx} (h : Fil M p d l) (hb : BRel M (fun _ => 0)) : M.done = 0 := by
  unfold SM.done doneN
  cases hr : M.recs with
  | nil => rfl
  | cons r rs =>
    have := hb.fresh 0 r (by rw [hr]; rfl) (by rw [h.took]; exact Nat.le_refl _)
    rw [List.takeWhile_cons, this]
    rfl
theorem Fil.work {M : SM} {p d : Nat} {l : List Tx} (h : Fil M p d l) : M.work = (l.map fun t => 1 + t.c.length).sum := by
  unfold SM.work
  rw [h.took, List.drop_zero, h.txs, sum_none (SM.dwork l) M.dos (fun x hx => by unfold SM.dwork; rw [if_pos (h.idle x hx)])]
  rfl

/-- Submit of a sound transaction. -/
theorem bsubmit_any {w0 w : World} {M : SM} {p d : Nat} {l : List Tx} (h : BAt w0 w M (fun _ => 0)) (hf : Fil M p d l) (hl : l.length < 40) (hd : TH) (t : Tx) (ho : OwnTx w hd t) (hk : checkN t = 0) (hap : ∀ k ∈ hd.blks, k < w0.heap.size) :
    Calls Try.prog 25 #[.pointer (some ⟨M.b, 0, none⟩), .agg hd.cells] w fun e w' => ∃ M', e = .returned (.tuple #[.int .i64 (l.length + 1 : Nat), .int .i64 0]) ∧ BAt w0 w' M' (fun _ => 0) ∧ Fil M' p d (l ++ [t]) ∧ M'.b = M.b := by
  have hr := hf.recs h.r
  have ht := hf.taken h.r
  have hs6 := sum_six l (fun x hx => h.r.chk x (by rw [hf.txs]; exact hx))
  have h6 := six hk
  have hroom := h.r.room
  have hcl := h.r.closedle
  have hfit : (M.txs.map (·.w.length)).sum + t.w.length ≤ 500 := by rw [hf.txs]; omega
  have hb := h.far M.b (SM.mem_foot.2 (Or.inl (SM.mem_mut.2 (Or.inl (by simp [SM.base])))))
  have href : M.refusal t = 0 := by
    unfold SM.refusal
    rw [if_neg (by simp [hk]), if_neg (by omega), if_neg (by omega)]
  refine (sSubmit_ok M w h.s (by omega) (by omega) hd t (ho.tx hk) ⟨ho.rO.nilOk, ho.wO.nilOk, ho.cO.nilOk⟩ (fun k hk e => by have := hap k hk; omega) hcl h.r.ends_closed href).mono ?_
  rintro e w' ⟨r, s, M', rfl, hS, hre, q1, q2, hC, hF⟩
  have b1 := b_add h.r (s := s) hre hk hfit
  have f1 : Fil ((M.withTaken t.w.length).withRec r t s) p d (l ++ [t]) := ⟨by show M.txs ++ [t] = _; rw [hf.txs], hf.took, hf.vs, hf.mks, hf.dos, hf.idle⟩
  refine ⟨M', by rw [hr], ?_⟩
  by_cases h6 : M.recs.length + 1 - M.closed = 6
  · obtain ⟨s2, rfl⟩ := q1 h6
    have b2 := b_close b1 s2 (by show M.closed < (M.recs ++ [r]).length; rw [List.length_append, List.length_singleton]; omega)
    exact ⟨h.turned hS b2 hC hF, ⟨f1.txs, f1.took, f1.vs, f1.mks, f1.dos, f1.idle⟩, rfl⟩
  · obtain rfl := q2 h6
    exact ⟨h.turned hS b1 hC hF, f1, rfl⟩

/-- Cut. -/
theorem bcut_any {w0 w : World} {M : SM} {p d : Nat} {l : List Tx} (h : BAt w0 w M (fun _ => 0)) (hf : Fil M p d l) :
    Calls Try.prog 26 #[.pointer (some ⟨M.b, 0, none⟩)] w fun e w' => ∃ v M', e = .returned v ∧ BAt w0 w' M' (fun _ => 0) ∧ Fil M' p d l ∧ M'.b = M.b ∧ M'.closed = M'.recs.length := by
  have hcl := h.r.closedle
  by_cases hlt : M.closed < M.recs.length
  · refine (sCut_yes M w h.s hcl (by have := h.r.ends_closed; omega) hlt).mono ?_
    rintro e w' ⟨s, rfl, hS, hC, hF⟩
    exact ⟨_, M.withEnd s, rfl, h.turned hS (b_close h.r s hlt) hC (foot_withEnd hF), ⟨hf.txs, hf.took, hf.vs, hf.mks, hf.dos, hf.idle⟩, rfl, M.closed_withEnd s⟩
  · refine (sCut_no M w h.s hcl hlt).mono ?_
    rintro e w' ⟨rfl, n, rfl⟩
    exact ⟨_, M, rfl, h.on (below_drewN (Below.refl _ _) n), hf, rfl, by omega⟩

theorem tx_get : ∀ (l : List (TH × Tx)) (i : Nat) (h : TH) (t : Tx), l[i]? = some (h, t) → ∀ j, j < 3 → (txCells l)[i * 3 + j]? = h.cells.toList[j]?
  | [], i, h, t, hi, j, hj => by simp at hi
  | (h', t') :: l, 0, h, t, hi, j, hj => by
    simp only [List.getElem?_cons_zero, Option.some.injEq, Prod.mk.injEq] at hi
    obtain ⟨rfl, rfl⟩ := hi
    show (h'.cells.toList ++ txCells l)[0 * 3 + j]? = _
    rw [List.getElem?_append_left (by simp [TH.cells]; omega)]
    simp
  | (h', t') :: l, i + 1, h, t, hi, j, hj => by
    have ih := tx_get l i h t (by simpa using hi) j hj
    show (h'.cells.toList ++ txCells l)[(i + 1) * 3 + j]? = _
    have e : h'.cells.toList.length = 3 := rfl
    rw [List.getElem?_append_right (by omega), e, show (i + 1) * 3 + j - 3 = i * 3 + j by omega]
    exact ih
theorem SpxAt.cells {w0 w : World} {s : Sl} {l : List (TH × Tx)} (h : SpxAt w0 w s l) {i : Nat} (hi : i < l.length) : ∃ b a1 n1 c1 a2 n2 c2 a3 n3 c3 t, s.a = some ⟨b, 0, none⟩ ∧ l[i]? = some (⟨⟨a1, n1, c1⟩, ⟨a2, n2, c2⟩, ⟨a3, n3, c3⟩⟩, t) ∧ n2 = t.w.length ∧ n3 = t.c.length ∧ checkN t = 0 ∧ (∀ k ∈ TH.blks ⟨⟨a1, n1, c1⟩, ⟨a2, n2, c2⟩, ⟨a3, n3, c3⟩⟩, k < w.heap.size) ∧ ∀ w', Below w.heap.size w w' → w'.cell? ⟨b, i * 3, none⟩ = some (.slice a1 n1 c1) ∧ w'.cell? ⟨b, i * 3 + 1, none⟩ = some (.slice a2 n2 c2) ∧ w'.cell? ⟨b, i * 3 + 2, none⟩ = some (.slice a3 n3 c3) ∧ OwnTx w' ⟨⟨a1, n1, c1⟩, ⟨a2, n2, c2⟩, ⟨a3, n3, c3⟩⟩ t := by
  obtain ⟨⟨⟨⟨a1, n1, c1⟩, ⟨a2, n2, c2⟩, ⟨a3, n3, c3⟩⟩, t⟩, hx⟩ : ∃ x, l[i]? = some x := ⟨_, List.getElem?_eq_getElem hi⟩
  obtain ⟨o1, o2, _⟩ := h.tx _ (List.mem_of_getElem? hx)
  obtain ⟨b, ha, h0⟩ := h.own.cell (i := i * 3 + 0) (v := .slice a1 n1 c1) (tx_get l i _ t hx 0 (by omega))
  obtain ⟨b1, ha1, h1⟩ := h.own.cell (i := i * 3 + 1) (v := .slice a2 n2 c2) (tx_get l i _ t hx 1 (by omega))
  obtain ⟨b2, ha2, h2⟩ := h.own.cell (i := i * 3 + 2) (v := .slice a3 n3 c3) (tx_get l i _ t hx 2 (by omega))
  obtain rfl : b = b1 := by rw [ha] at ha1; cases ha1; rfl
  obtain rfl : b = b2 := by rw [ha] at ha2; cases ha2; rfl
  exact ⟨b, a1, n1, c1, a2, n2, c2, a3, n3, c3, t, ha, hx, o1.wn, o1.cn, o2, o1.blk_lt, fun w' hb => ⟨cell_below hb (Nat.le_refl _) h0, cell_below hb (Nat.le_refl _) h1, cell_below hb (Nat.le_refl _) h2, o1.below hb⟩⟩

set_option maxHeartbeats 4000000 in
set_option maxRecDepth 100000 in
theorem filled_any (s : Sl) (l : List (TH × Tx)) (w0 w : World) (hx : SpxAt w0 w s l) (hl40 : l.length ≤ 40) (c d : Int) (hc : inI64 c) (hd : inI64 d) :
    Calls Try.prog 10 #[.slice s.a s.n s.c, .int .i64 c, .int .i64 d] w fun e w' => ∃ M, e = .returned (.tuple #[.pointer (some ⟨M.b, 0, none⟩), .bool true]) ∧ BAt w w' M (fun _ => 0) ∧ Fil M (1 + pickN c 8) (1 + pickN d 6) (l.map (·.2)) ∧ M.closed = M.recs.length := by
  have OP := hide (opened_any c d hc hd w)
  generalize 1 + pickN c 8 = p at *
  generalize 1 + pickN d 6 = q at *
  have HX := hide hx
  rw [hx.n]
  clear hc hd hx
  go_enter Try.func10, Try.ntmps10
  go_wp2_with fail
  refine OP.out.mono ?_
  rintro e w1 ⟨M0, rfl, hba, hfi, _, _⟩
  have BA := hide hba
  have FI := hide hfi
  clear hba hfi
  generalize hb0 : M0.b = b0
  have HB0 := hide hb0
  clear hb0
  go_wp2_with fail
  go_loopw [10] (fun iv wr => ∃ (i : Nat) (M : SM), i ≤ l.length ∧ iv = .int .i64 i ∧ BAt w wr M (fun _ => 0) ∧ Fil M p q ((l.take i).map (·.2)) ∧ M.b = b0) (fun iv _ => l.length - (intOf iv).toNat)
  case atStart => exact ⟨0, M0, Nat.zero_le _, rfl, BA.out, FI.out, HB0.out⟩
  case round =>
    obtain ⟨i, M, hi5, rfl, hba, hfi, hmb⟩ := hrel
    clear BA FI HB0
    have BA := hide hba
    have FI := hide hfi
    subst hmb
    clear hba hfi
    by_cases hil : i < l.length
    · have hil' : (i : Int) < l.length := by omega
      have hwi : IntKind.i64.wrap ((i : Int) + 1) = ((i + 1 : Nat) : Int) := by rw [IntKind.wrap_i64]; omega
      obtain ⟨b, a1, n1, c1, a2, n2, c2, a3, n3, c3, t, ha, hx, rfl, rfl, hck, hlt, hat⟩ := HX.out.cells hil
      obtain ⟨x0, x1, x2, hot⟩ := hat wr BA.out.below
      have hlen : ((l.take i).map (·.2)).length = i := by rw [List.length_map, List.length_take]; omega
      have SU := hide (bsubmit_any BA.out FI.out (by omega) _ t hot hck hlt)
      have HTK := hide (show (l.take i).map (·.2) ++ [t] = (l.take (i + 1)).map (·.2) by rw [List.take_add_one, hx]; simp)
      rw [hlen, HTK.out] at SU
      simp only [TH.cells] at SU
      clear hot hlt hck hx hat hlen
      rw [ha]
      go_wp2_with fail
      refine SU.out.mono ?_
      rintro e w2 ⟨M', rfl, hb2, hf2, hmb⟩
      have HM := hide hmb
      have B2 := hide hb2
      have F2 := hide hf2
      clear hb2 hf2 hmb
      go_wp2
      go_roundw
      case rel => exact ⟨i + 1, M', by omega, by go_num, B2.out, F2.out, HM.out⟩
      case measure => simp [intOf]; omega
    · obtain rfl : i = l.length := by omega
      have hil' : ¬ (l.length : Int) < l.length := by omega
      have CU := hide (bcut_any BA.out FI.out)
      rw [List.take_length] at CU
      go_wp2_with fail
      refine CU.out.mono ?_
      rintro e w2 ⟨v, M', rfl, hb2, hf2, hmb, hcl⟩
      have HM := hide hmb
      have B2 := hide hb2
      have F2 := hide hf2
      have CL := hide hcl
      have SH := hide (bshow_any hb2)
      rw [hmb] at SH
      clear hb2 hf2 hcl hmb
      go_wp2_with fail
      refine SH.out.mono ?_
      rintro e w3 ⟨rfl, hb3⟩
      have B3 := hide hb3
      have hn := F2.out.recs hb3.r
      rw [List.length_map] at hn
      have htold : M'.told = #[.int .i64 l.length, .int .i64 M'.ends.length, .int .i64 M'.ready, .int .i64 0, .int .i64 M'.mark, .int .i64 M'.taken, .int .i64 0] := by
        unfold SM.told
        rw [hn, F2.out.done hb3.r, F2.out.live hb3.s]
        rfl
      rw [htold]
      have S4 := hide (rowAt_alloc w3 [.int .i64 l.length, .int .i64 M'.ends.length, .int .i64 M'.ready, .int .i64 0, .int .i64 M'.mark, .int .i64 M'.taken, .int .i64 0] 39)
      have B4 := hide (hb3.on (below_alloc1 w3 (.cells #[.int .i64 l.length, .int .i64 M'.ends.length, .int .i64 M'.ready, .int .i64 0, .int .i64 M'.mark, .int .i64 M'.taken, .int .i64 0] 39)))
      clear hb3 htold hn
      have y0 := S4.out.cell' (i := 0) rfl
      have y3 := S4.out.cell' (i := 3) rfl
      have y6 := S4.out.cell' (i := 6) rfl
      go_wp2
      go_region_with fail
      go_wp2
      exact bodyPost_ret (v := .tuple #[.pointer (some ⟨M.b, 0, none⟩), .bool true]) (by simp [results, Try.results10, go_sem]) rfl ⟨M', by rw [HM.out], B4.out.on (Below.refl _ _).drew, F2.out, CL.out⟩

end Go.Proofs.Ytlheloogmgmjnaa

namespace Go.Proofs.Ytlheloogmgmjnaa
open Go.RowKit

def roundsN (l : List Tx) : Nat := (l.map fun t => t.c.length + 2).sum
theorem thirty {t : Tx} (h : checkN t = 0) : t.c.length ≤ 30 := by
  have h1 : longB t = false := by
    cases hl : longB t with
    | false => rfl
    | true => unfold checkN at h; rw [hl] at h; simp at h
  simp [longB] at h1
  omega
theorem rounds_le : ∀ (l : List Tx), (∀ t ∈ l, checkN t = 0) → roundsN l ≤ 32 * l.length
  | [], _ => Nat.le_refl _
  | t :: l, h => by
    have h1 := rounds_le l (fun x hx => h x (by simp [hx]))
    have h2 := thirty (h t (by simp))
    unfold roundsN at h1 ⊢
    rw [List.map_cons, List.sum_cons, List.length_cons]
    omega
theorem rounds_eq : ∀ (l : List Tx), roundsN l = l.length + (l.map fun t => 1 + t.c.length).sum
  | [] => rfl
  | t :: l => by
    have h1 := rounds_eq l
    unfold roundsN at h1 ⊢
    rw [List.map_cons, List.sum_cons, List.map_cons, List.sum_cons, List.length_cons]
    omega
theorem SpxAt.chk {w0 w : World} {s : Sl} {l : List (TH × Tx)} (h : SpxAt w0 w s l) : ∀ t ∈ l.map (·.2), checkN t = 0 := by
  intro t ht
  obtain ⟨x, hx, rfl⟩ := List.mem_map.1 ht
  exact (h.tx x hx).2.1
theorem take_chk {l : List (TH × Tx)} (h : ∀ t ∈ l.map (·.2), checkN t = 0) (i : Nat) : ∀ t ∈ (l.take i).map (·.2), checkN t = 0 := by
  intro t ht
  rw [List.map_take] at ht
  exact h t (List.mem_of_mem_take ht)
theorem take_len {l : List (TH × Tx)} {i : Nat} (h : i ≤ l.length) : ((l.take i).map (·.2)).length = i := by rw [List.length_map, List.length_take]; omega

set_option maxHeartbeats 4000000 in
set_option maxRecDepth 100000 in
theorem rounds_any (s : Sl) (l : List (TH × Tx)) (w0 w : World) (hx : SpxAt w0 w s l) (hl40 : l.length ≤ 40) :
    Calls Try.prog 14 #[.slice s.a s.n s.c] w fun e w' => e = .returned (.int .i64 (roundsN (l.map (·.2)))) ∧ w' = w := by
  have HX := hide hx
  have CK := hide hx.chk
  rw [hx.n]
  clear hx
  go_enter Try.func14, Try.ntmps14
  go_wp2_with fail
  go_loopw [3, 4] (fun nv iv wr => ∃ (i : Nat), i ≤ l.length ∧ iv = .int .i64 i ∧ nv = .int .i64 (roundsN ((l.take i).map (·.2))) ∧ wr = w) (fun _ iv _ => l.length - (intOf iv).toNat)
  case atStart => exact ⟨0, Nat.zero_le _, rfl, rfl, rfl⟩
  case round =>
    obtain ⟨i, hi5, rfl, rfl, rfl⟩ := hrel
    by_cases hil : i < l.length
    · have hil' : (i : Int) < l.length := by omega
      have hwi : IntKind.i64.wrap ((i : Int) + 1) = ((i + 1 : Nat) : Int) := by rw [IntKind.wrap_i64]; omega
      obtain ⟨b, a1, n1, c1, a2, n2, c2, a3, n3, c3, t, ha, hx, rfl, rfl, hck, hlt, hat⟩ := HX.out.cells hil
      obtain ⟨x0, x1, x2, hot⟩ := hat wr (Below.refl _ _)
      have hR := rounds_le _ (take_chk CK.out i)
      rw [take_len hi5] at hR
      have h30 := thirty hck
      have HN := hide (show roundsN ((l.take (i + 1)).map (·.2)) = roundsN ((l.take i).map (·.2)) + (t.c.length + 2) by rw [List.take_add_one, hx]; simp [roundsN])
      generalize roundsN ((l.take i).map (·.2)) = R at *
      have hw1 : IntKind.i64.wrap ((R : Int) + (t.c.length : Int)) = ((R + t.c.length : Nat) : Int) := by rw [IntKind.wrap_i64]; omega
      have hw2 : IntKind.i64.wrap (((R : Int) + (t.c.length : Int)) + 2) = ((R + (t.c.length + 2) : Nat) : Int) := by rw [IntKind.wrap_i64]; omega
      clear hot hlt hck hx hat h30 hR
      rw [ha]
      go_wp2
      go_roundw
      case rel => exact ⟨i + 1, by omega, by go_num, by rw [HN.out]; go_num, trivial⟩
      case measure => simp [intOf]; omega
    · obtain rfl : i = l.length := by omega
      have hil' : ¬ (l.length : Int) < l.length := by omega
      rw [List.take_length]
      go_wp2
      go_ret
      exact ⟨rfl, rfl⟩

set_option maxHeartbeats 4000000 in
set_option maxRecDepth 100000 in
theorem turns_any (M0 : SM) (G0 : Nat → Nat) (w0 w : World) (hb : BAt w0 w M0 G0) (c d : Int) (hc : inI64 c) (hd : inI64 d) (hm : M0.mks.length = 1 + pickN c 8) (hdo : M0.dos.length = 1 + pickN d 6) (R W n : Nat) (hR : R ≤ 100000) (hn : M0.recs.length = n) (hcl : M0.closed = n) (hW : M0.work ≤ W) :
    Calls Try.prog 13 #[.pointer (some ⟨M0.b, 0, none⟩), .int .i64 c, .int .i64 d, .int .i64 R] w fun e w' => ∃ v M G, e = .returned v ∧ BAt w0 w' M G ∧ KeptS M0 M ∧ Rounds W n R M := by
  have h1 := pickN_lt c (n := 8) (by omega)
  have h2 := pickN_lt d (n := 6) (by omega)
  have SZ := hide (size_any c d hc hd)
  generalize pickN c 8 = p at *
  generalize pickN d 6 = q at *
  have BA := hide hb
  have HW := hide hW
  have HM := hide hm; have HD := hide hdo; have HN := hide hn; have HC := hide hcl
  generalize hb0 : M0.b = b0
  have HB0 := hide hb0
  clear hb hc hd hm hdo hn hcl hW hb0
  have hpq : IntKind.i64.wrap ((1 + (p : Int)) + (1 + (q : Int))) = (1 + (p : Int)) + (1 + (q : Int)) := by rw [IntKind.wrap_i64]; omega
  go_enter Try.func13, Try.ntmps13
  go_wp2_with fail
  refine (SZ.out _).mono ?_
  rintro e v1 ⟨rfl, hv1⟩
  rw [hv1]; clear hv1
  go_wp2_with fail
  go_loopw [10] (fun iv wr => ∃ (r : Nat) (M : SM) (G : Nat → Nat), r ≤ R ∧ iv = .int .i64 r ∧ BAt w0 wr M G ∧ KeptS M0 M ∧ Rounds W n r M ∧ M.b = b0) (fun iv _ => R - (intOf iv).toNat)
  case atStart => exact ⟨0, M0, G0, Nat.zero_le _, rfl, BA.out, KeptS.refl M0, Rounds.start HW.out, HB0.out⟩
  case round =>
    obtain ⟨r, M, G, hr5, rfl, hba, hk, hro, hmb⟩ := hrel
    clear BA
    have BA := hide hba
    have KK := hide hk
    have RO := hide hro
    have HMB := hide hmb
    clear hba hk hro hmb
    by_cases hrl : r < R
    · have hrl' : (r : Int) < R := by omega
      have hwr : IntKind.i64.wrap ((r : Int) + 1) = ((r + 1 : Nat) : Int) := by rw [IntKind.wrap_i64]; omega
      go_wp2_with fail
      go_loopw [11] (fun jv wr => ∃ (j : Nat) (M2 : SM) (G2 : Nat → Nat), j ≤ (1 + p) + (1 + q) ∧ jv = .int .i64 j ∧ BAt w0 wr M2 G2 ∧ TurnB M M2 j ∧ M2.b = b0) (fun jv _ => (1 + p) + (1 + q) - (intOf jv).toNat)
      case atStart => exact ⟨0, M, G, Nat.zero_le _, rfl, BA.out, TurnB.start M, HMB.out⟩
      case round =>
        obtain ⟨j, M2, G2, hj5, rfl, hba, ht, hmb⟩ := hrel
        have B2 := hide hba
        have TT := hide ht
        have HM2 := hide hmb
        by_cases hjl : j < (1 + p) + (1 + q)
        · have hjl' : (j : Int) < (1 + (p : Int)) + (1 + (q : Int)) := by omega
          have hwj : IntKind.i64.wrap ((j : Int) + 1) = ((j + 1 : Nat) : Int) := by rw [IntKind.wrap_i64]; omega
          have ST := hide (bstep_any hba (j : Int))
          rw [hmb] at ST
          clear hba ht hmb
          go_wp2_with fail
          refine ST.out.mono ?_
          rintro e w2 ⟨z, M3, G3, rfl, hb3, hs3⟩
          have B3 := hide hb3
          have S3 := hide hs3
          clear hb3 hs3
          go_wp2
          go_roundw
          case rel => exact ⟨j + 1, M3, G3, by omega, by go_num, B3.out, TT.out.step S3.out (by rw [KK.out.mks, KK.out.dos, HM.out, HD.out]; exact hjl), by rw [S3.out.kept.b]; exact HM2.out⟩
          case measure => simp [intOf]; omega
        · obtain rfl : j = (1 + p) + (1 + q) := by omega
          clear hba ht hmb
          go_wp2
          go_roundw
          case rel => exact ⟨r + 1, M2, G2, by omega, by go_num, B2.out, KK.out.trans TT.out.kept, RO.out.next BA.out.r (by rw [KK.out.mks, KK.out.dos, HM.out, HD.out]; exact TT.out) (by rw [KK.out.recs]; exact HN.out) (by rw [KK.out.closed]; exact HC.out) (by rw [KK.out.dos, HD.out]; omega), HM2.out⟩
          case measure => simp [intOf]; omega
    · obtain rfl : r = R := by omega
      have hrl' : ¬ (r : Int) < r := by omega
      go_wp2
      refine bodyPost_end (results_none rfl _ _ _) rfl ?_
      exact ⟨⟨_, rfl⟩, M, ⟨G, BA.out⟩, KK.out, RO.out⟩

end Go.Proofs.Ytlheloogmgmjnaa

namespace Go.Proofs.Ytlheloogmgmjnaa
open Go.RowKit

def writesN (l : List Tx) : Nat := (l.map (·.w.length)).sum

/-- What Show tells when all is done. -/
theorem told_rest {w : World} {M : SM} {G : Nat → Nat} (h : RestB M) (hb : BRel M G) (hs : SAt w M) {n : Nat} (hn : M.recs.length = n) : M.told = #[.int .i64 n, .int .i64 M.ends.length, .int .i64 M.ends.length, .int .i64 n, .int .i64 n, .int .i64 M.taken, .int .i64 M.taken] := by
  unfold SM.told
  rw [h.ready hb, h.done hb, h.mark hb, live_sum hs, hb.live_eq h.dealt, hn]

set_option maxHeartbeats 8000000 in
set_option maxRecDepth 100000 in
theorem Bounded_any (ao : Option Addr) (cap : Nat) (rs : List RowV) (c d : Int) (hc : inI64 c) (hd : inI64 d) (pa : Option Addr) (pc : Nat) (ks : List Int) (w : World) (hx : RowsAt w ao rs) (hp : IntsAt w pa ks) (hpl : ks.length ≤ 9223372036854775807) :
    Calls Try.prog 4 #[.slice ao rs.length cap, .int .i64 c, .int .i64 d, .slice pa ks.length pc] w fun e w' => e = .returned (.bool true) ∧ Below w.heap.size w w' := by
  have SPL := hide (spelt_any ao cap rs w hx)
  have HP := hide hp
  have HC := hide hc
  have HD := hide hd
  clear hx hp hc hd
  go_enter Try.func4, Try.ntmps4
  go_wp2_with fail
  refine SPL.out.mono ?_
  rintro e w1 ⟨s, l, rfl, hl40, hsx⟩
  have SX := hide hsx
  have FILL := hide (filled_any s l w w1 hsx hl40 c d HC.out HD.out)
  rw [hsx.n] at FILL
  rw [hsx.n]
  clear hsx SPL
  go_wp2_with fail
  refine FILL.out.mono ?_
  rintro e w2 ⟨M0, rfl, hba, hfi, hcl⟩
  have BA := hide hba
  have FI := hide hfi
  have CL := hide hcl
  clear hba hfi hcl FILL
  generalize hb0 : M0.b = b0
  have HB0 := hide hb0
  clear hb0
  go_wp2_with fail
  go_loopw [12, 13] (fun wv iv wr => ∃ (i : Nat), i ≤ l.length ∧ iv = .int .i64 i ∧ wv = .int .i64 (writesN ((l.take i).map (·.2))) ∧ wr = w2) (fun _ iv _ => l.length - (intOf iv).toNat)
  case atStart => exact ⟨0, Nat.zero_le _, rfl, rfl, rfl⟩
  case round =>
    obtain ⟨i, hi5, rfl, rfl, rfl⟩ := hrel
    by_cases hil : i < l.length
    · have hil' : (i : Int) < l.length := by omega
      have hwi : IntKind.i64.wrap ((i : Int) + 1) = ((i + 1 : Nat) : Int) := by rw [IntKind.wrap_i64]; omega
      obtain ⟨b, a1, n1, c1, a2, n2, c2, a3, n3, c3, t, ha, hx, rfl, rfl, hck, hlt, hat⟩ := SX.out.cells hil
      obtain ⟨x0, x1, x2, hot⟩ := hat wr BA.out.below
      have hR := sum_six _ (take_chk SX.out.chk i)
      rw [take_len hi5] at hR
      have h6 := six hck
      have HN := hide (show writesN ((l.take (i + 1)).map (·.2)) = writesN ((l.take i).map (·.2)) + t.w.length by rw [List.take_add_one, hx]; simp [writesN])
      change writesN ((l.take i).map (·.2)) ≤ 6 * i at hR
      generalize writesN ((l.take i).map (·.2)) = R at *
      have hw1 : IntKind.i64.wrap ((R : Int) + (t.w.length : Int)) = ((R + t.w.length : Nat) : Int) := by rw [IntKind.wrap_i64]; omega
      clear hot hlt hck hx hat h6 hR
      rw [ha]
      go_wp2
      go_roundw
      case rel => exact ⟨i + 1, by omega, by go_num, by rw [HN.out]; go_num, trivial⟩
      case measure => simp [intOf]; omega
    · obtain rfl : i = l.length := by omega
      have hil' : ¬ (l.length : Int) < l.length := by omega
      rw [List.take_length]
      have HWR := hide (show writesN (l.map (·.2)) = (M0.txs.map (·.w.length)).sum by rw [FI.out.txs]; rfl)
      generalize writesN (l.map (·.2)) = wn at *
      go_wp2_with fail
      go_loopw [14] (fun iv wx => ∃ (i : Nat) (M : SM) (G : Nat → Nat), i ≤ ks.length ∧ iv = .int .i64 i ∧ BAt w1 wx M G ∧ KeptS M0 M ∧ M.b = b0) (fun iv _ => ks.length - (intOf iv).toNat)
      case atStart => exact ⟨0, M0, _, Nat.zero_le _, rfl, BA.out, KeptS.refl M0, HB0.out⟩
      case round =>
        obtain ⟨i, M, G, hi5, rfl, hba, hk, hmb⟩ := hrel
        rename World => wx
        have KK := hide hk
        have HMB := hide hmb
        clear hk
        by_cases hil : i < ks.length
        · have hil' : (i : Int) < ks.length := by omega
          have hwi : IntKind.i64.wrap ((i : Int) + 1) = ((i + 1 : Nat) : Int) := by rw [IntKind.wrap_i64]; omega
          obtain ⟨b, o, rfl, hcs, _⟩ := HP.out.at hil
          obtain ⟨a, ha⟩ : ∃ a, ks.getD i 0 = a := ⟨_, rfl⟩
          have hca := cell_below (below_on SX.out.below hba.below) (Nat.le_refl _) (hcs i hil)
          rw [ha] at hca
          have ST := hide (bstep_any hba a)
          rw [hmb] at ST
          clear hcs ha hba hmb
          go_wp2_with fail
          refine ST.out.mono ?_
          rintro e w3 ⟨z, M', G', rfl, hb3, hs3⟩
          have S3 := hide hs3
          have SH := hide (bshow_any hb3)
          have hm3 : M'.b = b0 := by rw [hs3.kept.b]; exact HMB.out
          rw [hm3] at SH
          have HM3 := hide hm3
          clear hb3 hs3 hm3 ST
          go_wp2_with fail
          refine SH.out.mono ?_
          rintro e w4 ⟨rfl, hb4⟩
          have B4 := hide hb4
          have q1 : ¬ (M'.taken : Int) < M'.live := by have := hb4.r.live_le; have := live_sum hb4.s; omega
          have q2 : ¬ (wn : Int) < M'.taken := by have := hb4.r.taken_le; rw [S3.out.kept.txs, KK.out.txs, ← HWR.out] at this; omega
          have q3 : ¬ (M'.recs.length : Int) < M'.done := by have := done_le M'; omega
          have q4 : ¬ (M'.done : Int) < M'.mark := by have := mark_le hb4.r; omega
          have q5 : ¬ (M'.ends.length : Int) < M'.ready := by have := ready_le M'; omega
          simp only [SM.told]
          generalize M'.recs.length = r0 at *
          generalize M'.ends.length = r1 at *
          generalize M'.ready = r2 at *
          generalize M'.done = r3 at *
          generalize M'.mark = r4 at *
          generalize M'.taken = r5 at *
          generalize M'.live = r6 at *
          have S5 := hide (rowAt_alloc w4 [.int .i64 r0, .int .i64 r1, .int .i64 r2, .int .i64 r3, .int .i64 r4, .int .i64 r5, .int .i64 r6] 39)
          have B5 := hide (B4.out.on (below_alloc1 w4 (.cells #[.int .i64 r0, .int .i64 r1, .int .i64 r2, .int .i64 r3, .int .i64 r4, .int .i64 r5, .int .i64 r6] 39)))
          have y0 := S5.out.cell' (i := 0) rfl
          have y1 := S5.out.cell' (i := 1) rfl
          have y2 := S5.out.cell' (i := 2) rfl
          have y3 := S5.out.cell' (i := 3) rfl
          have y4 := S5.out.cell' (i := 4) rfl
          have y5 := S5.out.cell' (i := 5) rfl
          have y6 := S5.out.cell' (i := 6) rfl
          clear hb4 SH
          go_wp2
          go_roundw
          case rel => exact ⟨i + 1, M', G', by omega, by go_num, B5.out, KK.out.trans S3.out.kept, HM3.out⟩
          case measure => simp [intOf]; omega
        · obtain rfl : i = ks.length := by omega
          have hil' : ¬ (ks.length : Int) < ks.length := by omega
          have BX := hide hba
          have SXX := hide (SX.out.on hba.below)
          have RN := hide (rounds_any s l w wx SXX.out hl40)
          rw [SX.out.n] at RN
          have hRle := rounds_le _ SX.out.chk
          rw [List.length_map] at hRle
          have hReq := rounds_eq (l.map (·.2))
          rw [← FI.out.work, List.length_map] at hReq
          have hn0 : M0.recs.length = l.length := by rw [FI.out.recs BA.out.r, List.length_map]
          have TN := hide (fun R (hR : R ≤ 100000) => turns_any M G w1 wx hba c d HC.out HD.out (by rw [KK.out.mks]; exact FI.out.mks) (by rw [KK.out.dos]; exact FI.out.dos) R M0.work l.length hR (by rw [KK.out.recs]; exact hn0) (by rw [KK.out.closed, CL.out]; exact hn0) KK.out.work)
          rw [hmb] at TN
          have SZ := hide (size_any c d HC.out HD.out)
          generalize roundsN (l.map (·.2)) = R at *
          have HRE := hide hReq
          have HN0 := hide hn0
          clear hba hmb hReq hn0
          go_wp2_with fail
          refine RN.out.mono ?_
          rintro e v1 ⟨rfl, hv1⟩
          rw [hv1]; clear hv1
          go_wp2_with fail
          refine (TN.out R (by omega)).mono ?_
          rintro e w5 ⟨v, M5, G5, rfl, hb5, hk5, hro⟩
          have hn5 : M5.recs.length = l.length := by rw [hk5.recs, KK.out.recs]; exact HN0.out
          have hc5 : M5.closed = l.length := by rw [hk5.closed, KK.out.closed, CL.out]; exact HN0.out
          have hrest : RestB M5 := by
            rw [HRE.out] at hro
            exact hro.rest hb5.r hn5 hc5
          have RE := hide hrest
          have SH := hide (bshow_any hb5)
          rw [told_rest hrest hb5.r hb5.s hn5] at SH
          have hm5 : M5.b = b0 := by rw [hk5.b]; exact HMB.out
          rw [hm5] at SH
          have HM5 := hide hm5
          have HP5 := hide (show M5.mks.length = 1 + pickN c 8 ∧ M5.dos.length = 1 + pickN d 6 from ⟨by rw [hk5.mks, KK.out.mks]; exact FI.out.mks, by rw [hk5.dos, KK.out.dos]; exact FI.out.dos⟩)
          clear hb5 hk5 hro hn5 hc5 hrest hm5 TN RN
          go_wp2_with fail
          refine SH.out.mono ?_
          rintro e w6 ⟨rfl, hb6⟩
          have B6 := hide hb6
          generalize M5.ends.length = r1 at *
          generalize M5.taken = r5 at *
          have S7 := hide (rowAt_alloc w6 [.int .i64 l.length, .int .i64 r1, .int .i64 r1, .int .i64 l.length, .int .i64 l.length, .int .i64 r5, .int .i64 r5] 39)
          have B7 := hide (B6.out.on (below_alloc1 w6 (.cells #[.int .i64 l.length, .int .i64 r1, .int .i64 r1, .int .i64 l.length, .int .i64 l.length, .int .i64 r5, .int .i64 r5] 39)))
          have y1 := S7.out.cell' (i := 1) rfl
          have y2 := S7.out.cell' (i := 2) rfl
          have y3 := S7.out.cell' (i := 3) rfl
          have y4 := S7.out.cell' (i := 4) rfl
          have y5 := S7.out.cell' (i := 5) rfl
          have y6 := S7.out.cell' (i := 6) rfl
          have h1 := pickN_lt c (n := 8) (by omega)
          have h2 := pickN_lt d (n := 6) (by omega)
          generalize pickN c 8 = p at *
          generalize pickN d 6 = q at *
          have hpq : IntKind.i64.wrap ((1 + (p : Int)) + (1 + (q : Int))) = (1 + (p : Int)) + (1 + (q : Int)) := by rw [IntKind.wrap_i64]; omega
          clear hb6 SH
          go_wp2_with fail
          refine (SZ.out _).mono ?_
          rintro e v1 ⟨rfl, hv1⟩
          rw [hv1]; clear hv1
          go_wp2_with fail
          go_loopw [19] (fun jv wy => ∃ (j : Int) (G : Nat → Nat), -1 ≤ j ∧ j ≤ (1 + (p : Int)) + (1 + (q : Int)) ∧ jv = .int .i64 j ∧ BAt w1 wy M5 G) (fun jv _ => ((1 + (p : Int)) + (1 + (q : Int)) - intOf jv).toNat)
          case atStart => exact ⟨-1, G5, by omega, by omega, rfl, B7.out⟩
          case round =>
            obtain ⟨j, G6, hj1, hj5, rfl, hba⟩ := hrel
            rename World => wy
            have B8 := hide hba
            by_cases hjl : j < (1 + (p : Int)) + (1 + (q : Int))
            · have hwj : IntKind.i64.wrap (j + 1) = j + 1 := by rw [IntKind.wrap_i64]; omega
              have ST := hide (bstep_any hba j)
              rw [HM5.out] at ST
              clear hba
              go_wp2_with fail
              refine ST.out.mono ?_
              rintro e w9 ⟨z, M9, G9, rfl, hb9, hs9⟩
              obtain ⟨rfl, rfl⟩ := RE.out.step B8.out.r hs9 (by rw [HP5.out.1, HP5.out.2]; omega)
              have B9 := hide hb9
              clear hb9 hs9
              go_wp2
              go_roundw
              case rel => exact ⟨j + 1, G9, by omega, by omega, by go_num, B9.out⟩
              case measure => simp [intOf]; omega
            · clear hba
              go_wp2
              go_ret
              exact ⟨rfl, below_on SX.out.below B8.out.below⟩

end Go.Proofs.Ytlheloogmgmjnaa

namespace Go.Proofs.Ytlheloogmgmjnaa
open Go.ChangeShapes Go.WideShapes Go.ChangeAt Go.RowKit

theorem Try.underlying31 : Try.prog.underlying 31 = some (.slice 22) := by kernel_rfl

theorem inI64_of_wf {k : Int} (h : (Lit.int .i64 k).wf = true) : inI64 k := by
  have e1 : IntKind.i64.min = -9223372036854775808 := by decide
  have e2 : IntKind.i64.max = 9223372036854775807 := by decide
  simp only [Lit.wf, e1, e2, Bool.and_eq_true, decide_eq_true_eq] at h
  exact h

section
variable {H : Type} {enc : TypeId × Value → H} {w : World} {base : Nat} {spare : Nat → Bool} {held : Bool}

/-- A '[]int' that is read, whatever its length. -/
theorem open_ints_all {fuel : Nat} {cs : List Value} {x : DataW H × List MemPlace} (h : DataW.trod enc Try.prog w base spare held fuel 22 cs = some x) :
    ∃ (a : Option Addr) (c : Nat) (xs : List Int), cs = [.slice a xs.length c] ∧ xs.length ≤ 9223372036854775807 ∧ IntsAt w a xs ∧ (∀ y ∈ xs, inI64 y) := by
  rcases Deep.open_slice1 Try.underlying22 Try.cells3 h with ⟨rfl, rfl⟩ | ⟨a, len, cap, m, n, V, D, Pl, rfl, hb, hl, hm, hmm, rfl, hx⟩
  · exact ⟨none, 0, [], rfl, by simp, Or.inl rfl, by simp⟩
  · have hml : len ≤ m := by rw [hmm]; split <;> omega
    have hall : ∀ i, i < len → ∃ k, w.cell? (a.add i) = some (.int .i64 k) ∧ (Lit.int .i64 k).wf = true := by
      intro i hi
      obtain ⟨h1, h2⟩ := hx i (by omega)
      obtain ⟨k, hk, _, hwf⟩ := DataW.trod_int Try.underlying3 h2
      simp only [List.cons.injEq, and_true] at hk
      exact ⟨k, by rw [h1, hk], hwf⟩
    obtain ⟨F, hF⟩ := Deep.choose_lt hall
    refine ⟨some a, cap, (List.range len).map F, by simp, ?_, ?_, ?_⟩
    · unfold maxLen at hm
      simp only [List.length_map, List.length_range]
      omega
    · by_cases h0 : len = 0
      · exact Or.inl (by simp [h0])
      · obtain ⟨b, off, spot⟩ := a
        have hspot : spot = none := by simpa [Addr.add] using World.cell?_spot (hF 0 (by omega)).1
        subst hspot
        refine Or.inr ⟨b, off, rfl, fun i hi => ?_⟩
        simp at hi
        rw [← addr_add, (hF i hi).1]
        simp [List.getD, hi]
    · intro y hy
      simp at hy
      obtain ⟨i, hi, rfl⟩ := hy
      exact inI64_of_wf (hF i hi).2

/-- A '[][]int' that is read. -/
theorem open_rows_all {fuel : Nat} {cs : List Value} {x : DataW H × List MemPlace} (h : DataW.trod enc Try.prog w base spare held fuel 31 cs = some x) :
    ∃ (a : Option Addr) (c : Nat) (rs : List RowV), cs = [.slice a rs.length c] ∧ RowsAt w a rs := by
  rcases Deep.open_slice1 Try.underlying31 Try.cells22 h with ⟨rfl, rfl⟩ | ⟨a, len, cap, m, n, V, D, Pl, rfl, hb, hl, hm, hmm, rfl, hx⟩
  · exact ⟨none, 0, [], rfl, Or.inl rfl⟩
  · have hml : len ≤ m := by rw [hmm]; split <;> omega
    have hall : ∀ i, i < len → ∃ r : RowV, w.cell? (a.add i) = some (.slice r.a r.xs.length r.c) ∧ IntsAt w r.a r.xs ∧ (∀ y ∈ r.xs, inI64 y) ∧ r.xs.length ≤ 9223372036854775807 := by
      intro i hi
      obtain ⟨h1, h2⟩ := hx i (by omega)
      obtain ⟨a', c', xs, e, hn, hat, hr⟩ := open_ints_all h2
      simp only [List.cons.injEq, and_true] at e
      exact ⟨⟨a', c', xs⟩, by rw [h1, e], hat, hr, hn⟩
    have : Inhabited RowV := ⟨RowV.zero⟩
    obtain ⟨F, hF⟩ := Deep.choose_lt hall
    refine ⟨some a, cap, (List.range len).map F, by simp, ?_⟩
    by_cases h0 : len = 0
    · exact Or.inl (by simp [h0])
    · obtain ⟨b, off, spot⟩ := a
      have hspot : spot = none := by simpa [Addr.add] using World.cell?_spot (hF 0 (by omega)).1
      subst hspot
      refine Or.inr ⟨b, off, rfl, fun i hi => ?_⟩
      simp at hi
      have e : ((List.range len).map F).getD i RowV.zero = F i := by simp [List.getD, hi]
      rw [e, ← addr_add]
      exact hF i hi
end

end Go.Proofs.Ytlheloogmgmjnaa
