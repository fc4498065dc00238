import Derived.Test.YtlheloogmgmjnaaGreatAppend
import Derived.Test.YtlheloogmgmjnaaGreatProg
import Derived.Test.YtlheloogmgmjnaaGreatNumbers
import Derived.Deep.DeepMust
namespace Go.Proofs.YtlheloogmgmjnaaGreat
open Go.RowKit

theorem IntsAt.src' {w : World} {ao : Option Addr} {xs : List Int} (h : IntsAt w ao xs) : ∀ ad, ao = some ad → ∀ j u, (ints xs)[j]? = some u → w.cell? (ad.add j) = some u := by
  intro ad ha j u hu
  have hj := (ints_get xs j u hu).1
  obtain ⟨ad', ha', hc⟩ := h.src (by simp [ints]; omega)
  rw [ha] at ha'; cases ha'
  exact hc j u hu
theorem InsAt.src' {w : World} {ao : Option Addr} {xs : List Ins} (h : InsAt w ao xs) : ∀ ad, ao = some ad → ∀ j u, (insCells xs)[j]? = some u → w.cell? (ad.add j) = some u := by
  intro ad ha j u hu
  have hj : j < (insCells xs).length := (List.getElem?_eq_some_iff.1 hu).1
  obtain ⟨ad', ha', hc⟩ := h.src (by omega)
  rw [ha] at ha'; cases ha'
  exact hc j u hu

theorem Own.instrs {w : World} {e : TypeId} {s : Sl} {xs : List Ins} (h : Own w e 4 s (insCells xs)) : InsAt w s.a xs := by
  by_cases h0 : xs = []
  · exact Or.inl h0
  · have hp : 0 < xs.length := List.length_pos_iff.2 h0
    obtain ⟨g, ha, _⟩ := h.cell (insCells_get xs 0 hp).1
    refine Or.inr ⟨g, 0, ha, fun i hi => ?_⟩
    obtain ⟨i0, i1, i2, i3⟩ := insCells_get xs i hi
    obtain ⟨g0, a0, c0⟩ := h.cell i0
    obtain ⟨g1, a1, c1⟩ := h.cell i1
    obtain ⟨g2, a2, c2⟩ := h.cell i2
    obtain ⟨g3, a3, c3⟩ := h.cell i3
    rw [ha] at a0 a1 a2 a3; simp at a0 a1 a2 a3; subst a0 a1 a2 a3
    rw [Nat.zero_add]; exact ⟨c0, c1, c2, c3⟩

/-- The lists of a header that are nil have no room. -/
def TH.nilOk (h : TH) : Prop := (h.r.a = none → h.r.n = 0 ∧ h.r.c = 0) ∧ (h.w.a = none → h.w.n = 0 ∧ h.w.c = 0) ∧ (h.c.a = none → h.c.n = 0 ∧ h.c.c = 0)

/-- A transaction of lists of its own. -/
structure OwnTx (w : World) (h : TH) (t : Tx) : Prop where
  rO : Own w 3 1 h.r (ints t.r)
  wO : Own w 3 1 h.w (ints t.w)
  cO : Own w 114 4 h.c (insCells t.c)
  rn : h.r.n = t.r.length
  wn : h.w.n = t.w.length
  cn : h.c.n = t.c.length

theorem Own.cap {w : World} {e : TypeId} {sz : Nat} {s : Sl} {xs : List Value} (h : Own w e sz s xs) : s.n ≤ s.c := by
  rcases h.row with ⟨rfl, _⟩ | ⟨_, _, _, _, hn, _⟩
  · exact Nat.le_refl _
  · exact hn
theorem Own.nilOk {w : World} {e : TypeId} {sz : Nat} {s : Sl} {xs : List Value} (h : Own w e sz s xs) : s.a = none → s.n = 0 ∧ s.c = 0 := by
  intro ha
  rcases h.row with ⟨rfl, _⟩ | ⟨g, _, hg, _⟩
  · exact ⟨rfl, rfl⟩
  · rw [ha] at hg; cases hg

theorem OwnTx.at {w w0 : World} {h h0 : TH} {t : Tx} (o : OwnTx w h t) (x : TxAt w0 h0 t) : TxAt w h t :=
  ⟨o.rn, o.wn, o.cn, o.rO.cap, o.wO.cap, o.cO.cap, by rw [o.rn, ← x.rl]; exact x.rb, by rw [o.wn, ← x.wl]; exact x.wb, by rw [o.cn, ← x.cl]; exact x.cb, o.rO.ints, o.wO.ints, o.cO.instrs⟩

def TH.blks (h : TH) : List Nat := h.r.blk ++ (h.w.blk ++ h.c.blk)

set_option maxHeartbeats 2000000 in
set_option maxRecDepth 100000 in
theorem rcopied_any (h : TH) (t : Tx) (w : World) (hx : TxAt w h t) (hn : h.nilOk) :
    Calls Tryz.prog 115 #[.agg h.cells] w fun e w' => ∃ h' : TH, e = .returned (.agg h'.cells) ∧ OwnTx w' h' t ∧ (∀ k ∈ h'.blks, w.heap.size ≤ k) ∧ Below w.heap.size w w' := by
  obtain ⟨i0, hi, hz0, hz1, hz2⟩ := info_parts Tryz.info3
  obtain ⟨j0, gi, gz0, gz1, gz2⟩ := info_parts Tryz.info114
  obtain ⟨⟨ra, rn, rc⟩, ⟨wa, wn, wc⟩, ⟨ca, cn, cc⟩⟩ := h
  obtain ⟨R, W, C⟩ := t
  obtain ⟨rl, wl, cl, _, _, _, b4, b5, b6, ri, wi, ci⟩ := hx
  obtain ⟨n1, n2, n3⟩ := hn
  simp only at rl wl cl b4 b5 b6 ri wi ci n1 n2 n3
  subst rl wl cl
  have IR := hide (fun wx (hb : Below w.heap.size w wx) => (ri.below hb).src')
  have IW := hide (fun wx (hb : Below w.heap.size w wx) => (wi.below hb).src')
  have IC := hide (fun wx (hb : Below w.heap.size w wx) => (ci.below hb).src')
  have N1 := hide n1; have N2 := hide n2; have N3 := hide n3
  have M1 := hide (show Sl.nil.n + R.length ≤ maxLen by simp [Sl.nil]; unfold maxLen; omega)
  have M2 := hide (show Sl.nil.n + W.length ≤ maxLen by simp [Sl.nil]; unfold maxLen; omega)
  have M3 := hide (show Sl.nil.n + C.length ≤ maxLen by simp [Sl.nil]; unfold maxLen; omega)
  have Q1 := hide (show (Sl.nil.n + R.length) * 8 ≤ 140737488355328 by simp [Sl.nil]; omega)
  have Q2 := hide (show (Sl.nil.n + W.length) * 8 ≤ 140737488355328 by simp [Sl.nil]; omega)
  have Q3 := hide (show (Sl.nil.n + C.length) * 32 ≤ 140737488355328 by simp [Sl.nil]; omega)
  clear ri wi ci n1 n2 n3 b4 b5 b6
  show Calls Tryz.prog 115 #[.agg #[.slice ra R.length rc, .slice wa W.length wc, .slice ca C.length cc]] w _
  have A0 := hide (((rowAt_alloc w [.slice ra R.length rc, .slice wa W.length wc, .slice ca C.length cc] 33).alloc (Obj.cells #[.slice none 0 0, .slice none 0 0, .slice none 0 0] 33)).alloc (Obj.cells #[.slice none 0 0, .slice none 0 0, .slice none 0 0] 33))
  have Z0 := hide ((rowAt_alloc (w.alloc (Obj.cells #[.slice ra R.length rc, .slice wa W.length wc, .slice ca C.length cc] 33)) [.slice none 0 0, .slice none 0 0, .slice none 0 0] 33).alloc (Obj.cells #[.slice none 0 0, .slice none 0 0, .slice none 0 0] 33))
  have O0 := hide (rowAt_alloc ((w.alloc (Obj.cells #[.slice ra R.length rc, .slice wa W.length wc, .slice ca C.length cc] 33)).alloc (Obj.cells #[.slice none 0 0, .slice none 0 0, .slice none 0 0] 33)) [.slice none 0 0, .slice none 0 0, .slice none 0 0] 33)
  have B0 := hide (below_on (below_on (below_alloc1 w (Obj.cells #[.slice ra R.length rc, .slice wa W.length wc, .slice ca C.length cc] 33)) (below_alloc1 _ (Obj.cells #[.slice none 0 0, .slice none 0 0, .slice none 0 0] 33))) (below_alloc1 _ (Obj.cells #[.slice none 0 0, .slice none 0 0, .slice none 0 0] 33)))
  simp only [size_alloc_eq] at Z0 O0
  go_enter Tryz.func115, Tryz.ntmps115
  go_wp2_with (first
    | (at_builtin; refine wpList_append_sl rfl (.tmp 5) (.tmp 7) 30 rfl 3 i0 (.int .i64 0) 1 8 Tryz.underlying30 hi hz0 hz1 hz2 rfl (by decide) Sl.nil [] rfl (Own.nil _ _ _) ra R.length rc (ints R) rfl (by simp [ints]) N1.out (IR.out _ B0.out) (ints_oneCell' R) M1.out Q1.out ?_; intro s1 w1 ow1 sn1 ch1 bl1; have B1 := hide (below_on B0.out (ch1.below (by simp [Sl.blk, Sl.nil]))); have A1 := hide (A0.out.chg ch1 (by simp [Sl.blk, Sl.nil])); have Z1 := hide (Z0.out.chg ch1 (by simp [Sl.blk, Sl.nil])); have O1 := hide (O0.out.chg ch1 (by simp [Sl.blk, Sl.nil])); have a10 := A1.out.cell' (i := 0) rfl; have a11 := A1.out.cell' (i := 1) rfl; have a12 := A1.out.cell' (i := 2) rfl; have o10 := O1.out.cell' (i := 0) rfl; have o11 := O1.out.cell' (i := 1) rfl; have o12 := O1.out.cell' (i := 2) rfl; have of1 := O1.out.frozen; have z10 := Z1.out.cell' (i := 0) rfl; have z11 := Z1.out.cell' (i := 1) rfl; have z12 := Z1.out.cell' (i := 2) rfl; have zf1 := Z1.out.frozen; have OW1 := hide ow1; have SN1 := hide sn1; have CH1 := hide ch1; have BL1 := hide bl1; clear ow1 sn1 ch1 bl1)
    | (at_builtin; refine wpList_append_sl rfl (.tmp 11) (.tmp 13) 30 rfl 3 i0 (.int .i64 0) 1 8 Tryz.underlying30 hi hz0 hz1 hz2 rfl (by decide) Sl.nil [] rfl (Own.nil _ _ _) wa W.length wc (ints W) rfl (by simp [ints]) N2.out (IW.out _ (B1.out.setCell (p := ⟨w.heap.size + 1 + 1, 0, none⟩) (by simp; omega) (.slice s1.a s1.n s1.c))) (ints_oneCell' W) M2.out Q2.out ?_; intro s2 w2 ow2 sn2 ch2 bl2; have B2 := hide (below_on (B1.out.setCell (p := ⟨w.heap.size + 1 + 1, 0, none⟩) (by simp; omega) (.slice s1.a s1.n s1.c)) (ch2.below (by simp [Sl.blk, Sl.nil]))); have A2 := hide ((A1.out.setOther (a := ⟨w.heap.size + 1 + 1, 0, none⟩) (by simp; omega) (.slice s1.a s1.n s1.c)).chg ch2 (by simp [Sl.blk, Sl.nil])); have Z2 := hide ((Z1.out.setOther (a := ⟨w.heap.size + 1 + 1, 0, none⟩) (by simp) (.slice s1.a s1.n s1.c)).chg ch2 (by simp [Sl.blk, Sl.nil])); have O2 := hide ((O1.out.set 0 (.slice s1.a s1.n s1.c)).chg ch2 (by simp [Sl.blk, Sl.nil])); have a20 := A2.out.cell' (i := 0) rfl; have a21 := A2.out.cell' (i := 1) rfl; have a22 := A2.out.cell' (i := 2) rfl; have o20 := O2.out.cell' (i := 0) rfl; have o21 := O2.out.cell' (i := 1) rfl; have o22 := O2.out.cell' (i := 2) rfl; have of2 := O2.out.frozen; have z20 := Z2.out.cell' (i := 0) rfl; have z21 := Z2.out.cell' (i := 1) rfl; have z22 := Z2.out.cell' (i := 2) rfl; have zf2 := Z2.out.frozen; have OW2 := hide ow2; have SN2 := hide sn2; have CH2 := hide ch2; have BL2 := hide bl2; clear ow2 sn2 ch2 bl2)
    | (at_builtin; refine wpList_append_sl rfl (.tmp 17) (.tmp 19) 31 rfl 114 j0 (.agg #[.int .i64 0, .int .i64 0, .int .i64 0, .int .i64 0]) 4 32 Tryz.underlying31 gi gz0 gz1 gz2 rfl (by decide) Sl.nil [] rfl (Own.nil _ _ _) ca C.length cc (insCells C) rfl (by simp [insCells_length]) N3.out (IC.out _ (B2.out.setCell (p := ⟨w.heap.size + 1 + 1, 1, none⟩) (by simp; omega) (.slice s2.a s2.n s2.c))) (insCells_oneCell C) M3.out Q3.out ?_; intro s3 w3 ow3 sn3 ch3 bl3; have B3 := hide (below_on (B2.out.setCell (p := ⟨w.heap.size + 1 + 1, 1, none⟩) (by simp; omega) (.slice s2.a s2.n s2.c)) (ch3.below (by simp [Sl.blk, Sl.nil]))); have A3 := hide ((A2.out.setOther (a := ⟨w.heap.size + 1 + 1, 1, none⟩) (by simp; omega) (.slice s2.a s2.n s2.c)).chg ch3 (by simp [Sl.blk, Sl.nil])); have Z3 := hide ((Z2.out.setOther (a := ⟨w.heap.size + 1 + 1, 1, none⟩) (by simp) (.slice s2.a s2.n s2.c)).chg ch3 (by simp [Sl.blk, Sl.nil])); have O3 := hide ((O2.out.set 1 (.slice s2.a s2.n s2.c)).chg ch3 (by simp [Sl.blk, Sl.nil])); have a30 := A3.out.cell' (i := 0) rfl; have a31 := A3.out.cell' (i := 1) rfl; have a32 := A3.out.cell' (i := 2) rfl; have o30 := O3.out.cell' (i := 0) rfl; have o31 := O3.out.cell' (i := 1) rfl; have o32 := O3.out.cell' (i := 2) rfl; have of3 := O3.out.frozen; have z30 := Z3.out.cell' (i := 0) rfl; have z31 := Z3.out.cell' (i := 1) rfl; have z32 := Z3.out.cell' (i := 2) rfl; have zf3 := Z3.out.frozen; have OW3 := hide ow3; have SN3 := hide sn3; have CH3 := hide ch3; have BL3 := hide bl3; clear ow3 sn3 ch3 bl3))
  have D3 : ∀ (wx : World) (a : Addr) (v : Value), (a.block = w.heap.size + 1 ∨ a.block = w.heap.size + 1 + 1) → Chg wx (wx.setCell a v) (fun k => k = w.heap.size + 1 ∨ k = w.heap.size + 1 + 1) := fun wx a v h => (Chg.setCell wx a v).mono (fun k _ hk => by rw [hk]; exact h)
  have ND : ∀ (wx wy : World), Chg wx wy (fun k => k ∈ Sl.nil.blk) → Chg wx wy (fun k => k = w.heap.size + 1 ∨ k = w.heap.size + 1 + 1) := fun wx wy h => h.mono (fun k _ hk => by simp [Sl.blk, Sl.nil] at hk)
  have e4 : Chg w3 _ (fun k => k = w.heap.size + 1 ∨ k = w.heap.size + 1 + 1) := ((D3 w3 ⟨w.heap.size + 1 + 1, 2, none⟩ (.slice s3.a s3.n s3.c) (Or.inr rfl)).trans (D3 _ ⟨w.heap.size + 1, 0, none⟩ (.slice s1.a s1.n s1.c) (Or.inl rfl))).trans ((D3 _ ⟨w.heap.size + 1, 1, none⟩ (.slice s2.a s2.n s2.c) (Or.inl rfl)).trans (D3 _ ⟨w.heap.size + 1, 2, none⟩ (.slice s3.a s3.n s3.c) (Or.inl rfl)))
  have e3 := ((D3 w2 ⟨w.heap.size + 1 + 1, 1, none⟩ (.slice s2.a s2.n s2.c) (Or.inr rfl)).trans (ND _ _ CH3.out)).trans e4
  have e2 := ((D3 w1 ⟨w.heap.size + 1 + 1, 0, none⟩ (.slice s1.a s1.n s1.c) (Or.inr rfl)).trans (ND _ _ CH2.out)).trans e3
  have l1 : ∀ k ∈ s1.blk, w.heap.size + 2 < k := fun k hk => by
    rcases BL1.out k hk with h | h
    · simp [Sl.blk, Sl.nil] at h
    · rw [h]; simp
  have q1 := B1.out.size
  have l2 : ∀ k ∈ s2.blk, w.heap.size + 2 < k := fun k hk => by
    rcases BL2.out k hk with h | h
    · simp [Sl.blk, Sl.nil] at h
    · have := O1.out.lt; rw [h]; simp [World.setCell]; omega
  have l3 : ∀ k ∈ s3.blk, w.heap.size + 2 < k := fun k hk => by
    rcases BL3.out k hk with h | h
    · simp [Sl.blk, Sl.nil] at h
    · have := O2.out.lt; rw [h]; simp [World.setCell]; omega
  have r1 := OW1.out.chg e2 (fun k hk => by have := l1 k hk; omega)
  have r2 := OW2.out.chg e3 (fun k hk => by have := l2 k hk; omega)
  have r3 := OW3.out.chg e4 (fun k hk => by have := l3 k hk; omega)
  have z5 := (((Z3.out.setOther (a := ⟨w.heap.size + 1 + 1, 2, none⟩) (by simp) (.slice s3.a s3.n s3.c)).set 0 (.slice s1.a s1.n s1.c)).set 1 (.slice s2.a s2.n s2.c)).set 2 (.slice s3.a s3.n s3.c)
  have b5 := B3.out.trans (e4.belowB (B := w.heap.size) (fun k hk => by omega) B3.out.size)
  clear e2 e3 e4 D3 ND
  generalize (((w3.setCell ⟨w.heap.size + 1 + 1, 2, none⟩ (.slice s3.a s3.n s3.c)).setCell ⟨w.heap.size + 1, 0, none⟩ (.slice s1.a s1.n s1.c)).setCell ⟨w.heap.size + 1, 1, none⟩ (.slice s2.a s2.n s2.c)).setCell ⟨w.heap.size + 1, 2, none⟩ (.slice s3.a s3.n s3.c) = w5 at *
  have y0 := z5.cell' (i := 0) rfl
  have y1 := z5.cell' (i := 1) rfl
  have y2 := z5.cell' (i := 2) rfl
  refine bodyPost_ret (v := .agg #[.slice s1.a s1.n s1.c, .slice s2.a s2.n s2.c, .slice s3.a s3.n s3.c]) (by simp [results, Tryz.results115, go_sem, y0, y1, y2]) rfl ⟨⟨s1, s2, s3⟩, rfl, ⟨r1, r2, r3, ?_, ?_, ?_⟩, ?_, b5⟩
  · rw [SN1.out]; simp [Sl.nil]
  · rw [SN2.out]; simp [Sl.nil]
  · rw [SN3.out]; simp [Sl.nil]
  · intro k hk
    simp only [TH.blks, List.mem_append] at hk
    rcases hk with h | h | h
    · have := l1 k h; omega
    · have := l2 k h; omega
    · have := l3 k h; omega

end Go.Proofs.YtlheloogmgmjnaaGreat
