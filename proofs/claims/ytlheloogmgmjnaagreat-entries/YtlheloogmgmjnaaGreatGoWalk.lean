import Derived.Test.YtlheloogmgmjnaaGreatGoDef
import Derived.Test.YtlheloogmgmjnaaGreatAppend
import Derived.Test.YtlheloogmgmjnaaGreatRefRead
import Derived.Deep.DeepMust
namespace Go.Proofs.YtlheloogmgmjnaaGreat
open Go.RowKit

theorem Tryz.info172 : (Tryz.prog.info? 172).map (fun i => (i.zero, i.size, i.bytes)) = some (some (.agg #[.int .i64 0, .bool false]), 2, 16) := by kernel_rfl
theorem Tryz.size172 : (Tryz.prog.info? 172).map (·.size) = some 2 := by kernel_rfl
theorem Tryz.info4 : (Tryz.prog.info? 4).map (fun i => (i.zero, i.size, i.bytes)) = some (some (.bool false), 1, 1) := by kernel_rfl

theorem made_slot (n : Nat) : (madeCells (Value.agg #[.int .i64 0, .bool false]).cells (n * 2)).toList = slotCells (List.replicate n Slot.none) := by
  apply List.ext_getElem?
  intro i
  by_cases hi : i < n * 2
  · obtain ⟨c0, c1⟩ := slotCells_get (List.replicate n Slot.none) (i / 2) (by simp; omega)
    have e : (List.replicate n Slot.none).getD (i / 2) Slot.none = Slot.none := by
      simp [List.getD, List.getElem?_replicate]; split <;> rfl
    rw [e] at c0 c1
    have hm : i = i / 2 * 2 ∨ i = i / 2 * 2 + 1 := by omega
    rcases hm with h | h
    · rw [← h] at c0; rw [c0]
      have h2 : i % 2 = 0 := by omega
      simp [madeCells, Value.cells, hi, h2, Slot.none]
    · rw [← h] at c1; rw [c1]
      have h2 : i % 2 = 1 := by omega
      simp [madeCells, Value.cells, hi, h2, Slot.none]
  · rw [List.getElem?_eq_none (by simp [madeCells]; omega), List.getElem?_eq_none (by rw [slotCells_length]; simp; omega)]

theorem made_bool (n : Nat) : (madeCells (Value.bool false).cells (n * 1)).toList = bools (List.replicate n false) := by
  rw [Nat.mul_one]; show (madeCells #[.bool false] n).toList = _; rw [toList_madeCells_one]; simp [bools]

theorem made_ints (n : Nat) : (madeCells (Value.int IntKind.i64 0).cells (n * 1)).toList = ints (List.replicate n 0) := by
  rw [made_int]; simp [ints]

/-- The keys' slots ahead, k of them laid. -/
def befTo (t : Tx) (hv : List Slot) (k : Nat) : List Slot := (befOf t hv).take k ++ List.replicate (t.w.length - k) Slot.none
theorem befTo_len (t : Tx) (hv : List Slot) (k : Nat) (hk : k ≤ t.w.length) : (befTo t hv k).length = t.w.length := by simp [befTo, befOf]; omega
theorem befTo_set (t : Tx) (hv : List Slot) (k : Nat) (hk : k < t.w.length) : (befTo t hv k).set k (hv.getD (t.w.getD k 0).toNat Slot.none) = befTo t hv (k + 1) := by
  have hl : ((befOf t hv).take k).length = k := by simp [befOf]; omega
  obtain ⟨m, hm⟩ : ∃ m, t.w.length - k = m + 1 := ⟨t.w.length - k - 1, by omega⟩
  have hb : k < (befOf t hv).length := by simp [befOf]; exact hk
  unfold befTo
  rw [List.set_append_right _ _ (by omega), hl, Nat.sub_self, hm, List.replicate_succ, List.set_cons_zero, List.take_succ_eq_append_getElem hb, show t.w.length - (k + 1) = m by omega]
  simp [befOf, List.getD, hk]
theorem befTo_end (t : Tx) (hv : List Slot) : befTo t hv t.w.length = befOf t hv := by
  simp only [befTo, Nat.sub_self, List.replicate_zero, List.append_nil]; rw [List.take_of_length_le (by simp [befOf])]

/-- Where Go stands ahead of an instruction. -/
structure GoInv (w wr : World) (t : Tx) (hv : List Slot) (hd : List Value) (gb go gs gc : Nat) (pc : Nat) (reg : List Int) (out : List Slot) (did : List Nat) (said : List Bool) (sd : Sl) : Prop where
  H : RowAt wr w.heap.size 33 hd
  R : RowAt wr (w.heap.size + 1) 168 [.slice none 0 0, .bool false, .int .i64 0, .slice none 0 0, .slice none 0 0]
  Gr : RowAt wr (w.heap.size + 1 + 1) 3 (ints reg)
  Gb : RowAt wr gb 172 (slotCells (befOf t hv))
  Go : RowAt wr go 172 (slotCells out)
  Gs : RowAt wr gs 4 (bools said)
  Gc : RowAt wr gc 168 [.slice sd.a sd.n sd.c, .bool false, .int .i64 0, .slice none 0 0, .slice (some ⟨gs, 0, none⟩) t.w.length t.w.length]
  Sd : Own wr 3 1 sd (ints (nats did))
  sdn : sd.n = did.length
  sdb : ∀ k ∈ sd.blk, gc < k
  B : Below w.heap.size w wr
  reg6 : reg.length = 6
  outn : out.length = t.w.length
  saidn : said.length = t.w.length
  didle : did.length ≤ pc
  pcle : pc ≤ 61
  crs : goAt t hv (befOf t hv) pc reg out did said = goCrs t hv

set_option maxHeartbeats 4000000 in
set_option maxRecDepth 100000 in
theorem rGo_any (h : TH) (t : Tx) (hv : List Slot) (ha : Option Addr) (hc : Nat) (w : World) (hx : TxAt w h t) (hchk : checkN t = 0) (hV : SlotsAt w ha hv) (hVl : hv.length = 24) :
    Calls Tryz.prog 116 #[.agg h.cells, .slice ha 24 hc] w fun e w' => ∃ sd sw ss : Sl, e = .returned (.agg #[.slice sd.a sd.n sd.c, .bool (goCrs t hv).ab, .int .i64 (goCrs t hv).out, .slice sw.a sw.n sw.c, .slice ss.a ss.n ss.c]) ∧
      IntsAt w' sd.a (nats (goCrs t hv).did) ∧ sd.n = (goCrs t hv).did.length ∧ SlotsAt w' sw.a (goCrs t hv).ws ∧ sw.n = (goCrs t hv).ws.length ∧ BoolsAt w' ss.a (goCrs t hv).said ∧ ss.n = (goCrs t hv).said.length ∧
      (∀ k ∈ sd.blk ++ (sw.blk ++ ss.blk), w.heap.size ≤ k ∧ k < w'.heap.size) ∧ Below w.heap.size w w' := by
  obtain ⟨i0, hi, hz0, hz1, hz2⟩ := info_parts Tryz.info3
  obtain ⟨j0, gi, gz0, gz1, gz2⟩ := info_parts Tryz.info172
  obtain ⟨k0, bi, bz0, bz1, bz2⟩ := info_parts Tryz.info4
  obtain ⟨c30, r6, w6, hkr, hkw, hsnd⟩ := checkN_sound t hchk
  clear hchk
  have hrl := hx.rl; have hwl := hx.wl; have hcl := hx.cl
  have HX := hide (fun wx (hb : Below w.heap.size w wx) => hx.below hb)
  have HV := hide hV
  clear hx hV
  obtain ⟨⟨ra, rn, rc⟩, ⟨wa, wn, wc⟩, ⟨ca, cn, cc⟩⟩ := h
  simp only at hrl hwl hcl
  subst hrl hwl hcl
  have hnr : t.w.length ≤ maxLen := by unfold maxLen; omega
  have M6 := hide (show i0.bytes * 6 ≤ 281474976710656 by rw [hz2]; omega)
  have N6 := hide (show 6 ≤ maxLen by unfold maxLen; omega)
  have MS := hide (show j0.bytes * t.w.length ≤ 281474976710656 by rw [gz2]; omega)
  have MB := hide (show k0.bytes * t.w.length ≤ 281474976710656 by rw [bz2]; omega)
  have NS := hide hnr
  clear hnr
  show Calls Tryz.prog 116 #[.agg #[.slice ra t.r.length rc, .slice wa t.w.length wc, .slice ca t.c.length cc], .slice ha 24 hc] w _
  have H0 := hide ((rowAt_alloc w [.slice ra t.r.length rc, .slice wa t.w.length wc, .slice ca t.c.length cc] 33).alloc (Obj.cells #[.slice none 0 0, .bool false, .int .i64 0, .slice none 0 0, .slice none 0 0] 168))
  have R0 := hide (rowAt_alloc (w.alloc (Obj.cells #[.slice ra t.r.length rc, .slice wa t.w.length wc, .slice ca t.c.length cc] 33)) [.slice none 0 0, .bool false, .int .i64 0, .slice none 0 0, .slice none 0 0] 168)
  have B0 := hide (below_on (below_alloc1 w (Obj.cells #[.slice ra t.r.length rc, .slice wa t.w.length wc, .slice ca t.c.length cc] 33)) (below_alloc1 _ (Obj.cells #[.slice none 0 0, .bool false, .int .i64 0, .slice none 0 0, .slice none 0 0] 168)))
  simp only [size_alloc_eq] at R0
  go_enter Tryz.func116, Tryz.ntmps116
  go_wp2_with (first
    | (at_make; refine wpList_make_rowAt _ rfl (.const (.int .i64 6)) (.const (.int .i64 6)) 30 rfl 3 i0 (.int .i64 0) 1 Tryz.underlying30 hi hz0 hz1 .i64 .i64 _ _ 6 rfl rfl (by rfl) (by rfl) M6.out N6.out ?_; intro w1 hr1 hb1; rw [made_ints] at hr1; have G1 := hide hr1; have B1 := hide (below_on B0.out hb1); have H1 := hide (H0.out.below' hb1); have R1 := hide (R0.out.below' hb1); have h1 := H1.out.cell' (i := 1) rfl; clear hr1 hb1)
    | (at_make; refine wpList_make_rowAt _ rfl (.tmp 15) (.tmp 15) 40 rfl 172 j0 (.agg #[.int .i64 0, .bool false]) 2 Tryz.underlying40 gi gz0 gz1 .i64 .i64 _ _ t.w.length rfl rfl (by rfl) (by rfl) MS.out NS.out ?_; intro w2 hr2 hb2; rw [made_slot] at hr2; have G2 := hide hr2; have B2 := hide (below_on B1.out hb2); have H2 := hide (H1.out.below' hb2); have R2 := hide (R1.out.below' hb2); have G12 := hide (G1.out.below' hb2); have h2 := H2.out.cell' (i := 1) rfl; clear hr2 hb2))
  simp only [size_alloc_eq] at G12
  have gb2 := G1.out.lt
  simp only [size_alloc_eq] at gb2
  obtain ⟨gb, hgb⟩ : ∃ gb, gb = w1.heap.size := ⟨_, rfl⟩
  rw [← hgb] at G2 gb2 ⊢
  clear hgb h1 h2 H0 R0 B0 H1 R1 G1 B1 M6 N6
  go_loopw [7] (fun tt wr => ∃ k : Nat, k ≤ t.w.length ∧ tt = .int .i64 k ∧ RowAt wr gb 172 (slotCells (befTo t hv k)) ∧ Chg w2 wr (· = gb)) (fun tt _ => t.w.length - (intOf tt).toNat)
  case atStart => exact ⟨0, Nat.zero_le _, rfl, by simpa [befTo] using G2.out, Chg.refl _ _⟩
  case round =>
    obtain ⟨k, hk, rfl, hg, hch⟩ := hrel
    have H3 := hide (H2.out.chg hch (by omega))
    have R3 := hide (R2.out.chg hch (by omega))
    have G13 := hide (G12.out.chg hch (by omega))
    have B3 := hide (B2.out.trans (hch.belowB (B := w.heap.size) (fun k hk => by omega) B2.out.size))
    have h3 := H3.out.cell' (i := 1) rfl
    by_cases hlt : k < t.w.length
    · obtain ⟨b1, o1, hwa, hc1, _⟩ := (HX.out wr B3.out).wi.at hlt
      replace hc1 := hc1 k hlt
      simp only at hwa
      obtain ⟨n, hn⟩ : ∃ n : Nat, t.w.getD k 0 = n := ⟨_, (Int.toNat_of_nonneg (hkw (t.w.getD k 0) (by simp [List.getD, hlt])).1).symm⟩
      have hn24 : n < 24 := by have := hkw (t.w.getD k 0) (by simp [List.getD, hlt]); omega
      obtain ⟨b2, o2, hha, hc2, _⟩ := (HV.out.below B3.out).at (k := n) (by omega)
      obtain ⟨s0, s1⟩ := hc2 n (by omega)
      obtain ⟨t0, t1⟩ := slotCells_get (befTo t hv k) k (by rw [befTo_len t hv k hk]; exact hlt)
      have hset := befTo_set t hv k hlt
      rw [hn] at hc1 hset
      simp only [Int.toNat_natCast] at hset
      generalize hv.getD n Slot.none = sl at *
      obtain ⟨sv, sth⟩ := sl
      simp only at s0 s1
      replace t0 := hg.cell' t0
      replace t1 := hg.cell' t1
      have tf0 := hg.frozen (k * 2)
      have tf1 := hg.frozen (k * 2 + 1)
      have hgn := (hg.set (k * 2) (.int .i64 sv)).set (k * 2 + 1) (.bool sth)
      rw [slotCells_set (befTo t hv k) ⟨sv, sth⟩ k (by rw [befTo_len t hv k hk]; exact hlt), hset] at hgn
      have HG := hide hgn
      rw [hwa] at h3
      subst hha
      have hgbl := hg.lt
      clear hgn hset hg hc2
      clear HX HV hsnd hkr hkw hn
      go_wp2
      go_roundw
      case rel => exact ⟨k + 1, by omega, by go_num, HG.out, hch.trans ((Chg.setCell wr ⟨gb, k * 2, none⟩ _).trans (Chg.setCell _ ⟨gb, k * 2 + 1, none⟩ _))⟩
      case measure => simp [intOf]; omega
    · have hkk : k = t.w.length := by omega
      subst hkk
      rw [befTo_end] at hg
      have G23 := hide hg
      have hgbl := hg.lt
      clear hg hch H2 R2 B2 G12 G2 hlt
      go_wp2_with (first
        | (at_make; refine wpList_make_rowAt _ rfl (.tmp 36) (.tmp 36) 40 rfl 172 j0 (.agg #[.int .i64 0, .bool false]) 2 Tryz.underlying40 gi gz0 gz1 .i64 .i64 _ _ t.w.length rfl rfl (by rfl) (by rfl) MS.out NS.out ?_; intro w4 hr4 hb4; rw [made_slot] at hr4))
      obtain ⟨w5, hrun, hr5, hb5⟩ := run_copy_ex (P := Tryz.prog) w4 40 40 3 172 2 Tryz.underlying40 Tryz.size172 (some ⟨wr.heap.size, 0, none⟩) (some ⟨gb, 0, none⟩) t.w.length t.w.length t.w.length t.w.length wr.heap.size _ 172 hr4 (slotCells (befOf t hv))
        (by rw [slotCells_length]; simp [befOf]) (by decide) (fun _ => ⟨rfl, _, rfl, fun j v hv' => by rw [addr_add, Nat.zero_add]; exact (G23.out.below' hb4).cell' hv'⟩) (by rw [slotCells_length, slotCells_length]; simp [befOf]) (slotCells_oneCell _) wr.heap.size wr hb4 (Nat.le_refl _)
      rw [hrun]
      rw [List.drop_eq_nil_of_le (by rw [slotCells_length, slotCells_length]; simp [befOf]), List.append_nil] at hr5
      have H5 := hide (H3.out.below' hb5)
      have R5 := hide (R3.out.below' hb5)
      have G15 := hide (G13.out.below' hb5)
      have G25 := hide (G23.out.below' hb5)
      have G35 := hide hr5
      have B5 := hide (below_on B3.out hb5)
      have h5 := H5.out.cell' (i := 1) rfl
      clear hrun hr4 hb4 hr5 hb5 H3 R3 G13 G23 B3 h3
      obtain ⟨go, hgo⟩ : ∃ go, go = wr.heap.size := ⟨_, rfl⟩
      rw [← hgo] at G35 hgbl ⊢
      clear hgo
      go_wp2_with (first
        | (at_make; refine wpList_make_rowAt _ rfl (.tmp 43) (.tmp 43) 60 rfl 4 k0 (.bool false) 1 Tryz.underlying60 bi bz0 bz1 .i64 .i64 _ _ t.w.length rfl rfl (by rfl) (by rfl) MB.out NS.out ?_; intro w6 hr6 hb6; rw [made_bool] at hr6))
      have H6 := hide (H5.out.below' hb6)
      have R6 := hide (R5.out.below' hb6)
      have G16 := hide (G15.out.below' hb6)
      have G26 := hide (G25.out.below' hb6)
      have G36 := hide (G35.out.below' hb6)
      have G46 := hide hr6
      have B6 := hide (below_on B5.out hb6)
      have hgol := G35.out.lt
      have hgsl := hr6.lt
      clear hr6 hb6 H5 R5 G15 G25 G35 B5 h5
      obtain ⟨gs, hgs⟩ : ∃ gs, gs = w5.heap.size := ⟨_, rfl⟩
      rw [← hgs] at G46 hgol hgsl ⊢
      clear hgs
      have C7 := hide (rowAt_alloc w6 [.slice none 0 0, .bool false, .int .i64 0, .slice none 0 0, .slice (some ⟨gs, 0, none⟩) t.w.length t.w.length] 168)
      have H7 := hide (H6.out.alloc (.cells #[.slice none 0 0, .bool false, .int .i64 0, .slice none 0 0, .slice (some ⟨gs, 0, none⟩) t.w.length t.w.length] 168))
      have R7 := hide (R6.out.alloc (.cells #[.slice none 0 0, .bool false, .int .i64 0, .slice none 0 0, .slice (some ⟨gs, 0, none⟩) t.w.length t.w.length] 168))
      have G17 := hide (G16.out.alloc (.cells #[.slice none 0 0, .bool false, .int .i64 0, .slice none 0 0, .slice (some ⟨gs, 0, none⟩) t.w.length t.w.length] 168))
      have G27 := hide (G26.out.alloc (.cells #[.slice none 0 0, .bool false, .int .i64 0, .slice none 0 0, .slice (some ⟨gs, 0, none⟩) t.w.length t.w.length] 168))
      have G37 := hide (G36.out.alloc (.cells #[.slice none 0 0, .bool false, .int .i64 0, .slice none 0 0, .slice (some ⟨gs, 0, none⟩) t.w.length t.w.length] 168))
      have G47 := hide (G46.out.alloc (.cells #[.slice none 0 0, .bool false, .int .i64 0, .slice none 0 0, .slice (some ⟨gs, 0, none⟩) t.w.length t.w.length] 168))
      have B7 := hide (below_on B6.out (below_alloc1 w6 (.cells #[.slice none 0 0, .bool false, .int .i64 0, .slice none 0 0, .slice (some ⟨gs, 0, none⟩) t.w.length t.w.length] 168)))
      clear H6 R6 G16 G26 G36 G46 B6
      obtain ⟨gc, hgc⟩ : ∃ gc, gc = w6.heap.size := ⟨_, rfl⟩
      rw [← hgc] at C7 hgsl ⊢
      generalize w6.alloc (.cells #[.slice none 0 0, .bool false, .int .i64 0, .slice none 0 0, .slice (some ⟨gs, 0, none⟩) t.w.length t.w.length] 168) = w7 at *
      clear hgc
      go_loopw [10] (fun tt wx => ∃ (pc : Nat) (reg : List Int) (out : List Slot) (did : List Nat) (said : List Bool) (sd : Sl), tt = .int .i64 pc ∧ GoInv w wx t hv [.slice ra t.r.length rc, .slice wa t.w.length wc, .slice ca t.c.length cc] gb go gs gc pc reg out did said sd) (fun tt _ => 62 - (intOf tt).toNat)
      case atStart => exact ⟨0, List.replicate 6 0, befOf t hv, [], List.replicate t.w.length false, Sl.nil, rfl, ⟨H7.out, R7.out, G17.out, G27.out, G37.out, G47.out, C7.out, Own.nil _ _ _, rfl, by simp [Sl.blk, Sl.nil], B7.out, by simp, by simp [befOf], by simp, Nat.le_refl _, by omega, rfl⟩⟩
      case round =>
        obtain ⟨pc, reg, out, did, said, sd, rfl, I⟩ := hrel
        have hh2 := I.H.cell' (i := 2) rfl
        have hpc61 := I.pcle
        by_cases hlt : pc < t.c.length
        · have hsx := hsnd (t.c.getD pc Ins.zero) (by simp [List.getD, hlt])
          obtain ⟨b1, o1, hca, hci, _⟩ := (HX.out wr I.B).ci.at hlt
          simp only at hca
          subst hca
          replace hci := hci pc hlt
          have hgcl := I.Gc.lt
          have hAb := goAt_abort (hv := hv) (bef := befOf t hv) (reg := reg) (out := out) (did := did) (said := said) hlt
          have hNx := goAt_next (hv := hv) (bef := befOf t hv) (reg := reg) (out := out) (did := did) (said := said) hlt
          rw [I.crs] at hAb hNx
          have HO := hide (fun (wx : World) (hb : Below w.heap.size w wx) => one_any (t.c.getD pc Ins.zero) ⟨⟨ra, t.r.length, rc⟩, ⟨wa, t.w.length, wc⟩, ⟨some ⟨b1, o1, none⟩, t.c.length, cc⟩⟩ t hv ha hc (w.heap.size + 1 + 1) go t.w.length reg out wx hsx I.reg6 I.outn)
          obtain ⟨x1, x11, xA, xB, xC, xL, xS, xP⟩ := soundB_cases hsx
          generalize t.c.getD pc Ins.zero = y at *
          obtain ⟨op, a, b, c⟩ := y
          obtain ⟨k0', k1', k2', k3'⟩ := hci
          simp only at k0' k1' k2' k3' x1 x11 xA xB xC xL xS xP hAb hNx
          have HAb := hide hAb; have HNx := hide hNx
          have P1 := hide (rowAt_alloc (wr.alloc (.cells #[.int .i64 op, .int .i64 a, .int .i64 b, .int .i64 c] 114)) [.int .i64 pc] 3)
          simp only [size_alloc_eq] at P1
          have X1 := hide ((rowAt_alloc wr [.int .i64 op, .int .i64 a, .int .i64 b, .int .i64 c] 114).alloc (.cells #[.int .i64 pc] 3))
          have S1 := hide (I.Sd.below (below_on (below_alloc1 wr (.cells #[.int .i64 op, .int .i64 a, .int .i64 b, .int .i64 c] 114)) (below_alloc1 _ (.cells #[.int .i64 pc] 3))))
          have MM := hide (show sd.n + 1 ≤ maxLen by have := I.sdn; have := I.didle; unfold maxLen; omega)
          have QQ := hide (show (sd.n + 1) * 8 ≤ 140737488355328 by have := I.sdn; have := I.didle; omega)
          have II := hide I
          have gc0 := I.Gc.cell' (i := 0) rfl
          have ndb : ∀ g, g ≤ gc → g ∉ sd.blk := fun g hg hk => by have := I.sdb g hk; omega
          have ndx : wr.heap.size ∉ sd.blk := fun hk => by have := I.Sd.blk_lt _ hk; omega
          have NDB := hide ndb; have NDX := hide ndx
          simp only [TH.cells, Ins.val] at HO
          rw [I.outn] at HO
          clear I hAb hNx hsx ndb ndx
          by_cases h11 : op = 11
          · subst h11
            obtain ⟨z, hz⟩ : ∃ z, z = reg.getD 0 0 := ⟨_, rfl⟩
            have HZ := hide hz.symm
            clear hz
            clear HX HV hsnd hkr hkw H7 R7 G17 G27 G37 G47 C7 B7
            go_wp2_with (first
              | (at_builtin; go_must (refine wpList_append_sl rfl (.tmp 59) (.tmp 61) 30 rfl 3 i0 (.int .i64 0) 1 8 Tryz.underlying30 hi hz0 hz1 hz2 rfl (by decide) sd (ints (nats did)) rfl S1.out (some ⟨wr.heap.size + 1, 0, none⟩) 1 1 [.int .i64 pc] rfl rfl (by simp) (fun ad had j u hu => by cases had; rw [addr_add, Nat.zero_add]; exact P1.out.cell' hu) (by simp [Value.oneCell']) MM.out QQ.out ?_; intro sd' w8 ow8 sn8 ch8 bl8; have X8 := hide (X1.out.chg ch8 NDX.out); have C8 := hide (((II.out.Gc.alloc _).alloc _).chg ch8 (NDB.out _ (Nat.le_refl _))); have H8 := hide (((II.out.H.alloc _).alloc _).chg ch8 (NDB.out _ (by omega))); have R8 := hide (((II.out.R.alloc _).alloc _).chg ch8 (NDB.out _ (by omega))); have Gr8 := hide (((II.out.Gr.alloc _).alloc _).chg ch8 (NDB.out _ (by omega))); have Gb8 := hide (((II.out.Gb.alloc _).alloc _).chg ch8 (NDB.out _ (by omega))); have Go8 := hide (((II.out.Go.alloc _).alloc _).chg ch8 (NDB.out _ (by omega))); have Gs8 := hide (((II.out.Gs.alloc _).alloc _).chg ch8 (NDB.out _ (by omega))); have B8 := hide (II.out.B.trans ((below_on (below_alloc1 wr (.cells #[.int .i64 11, .int .i64 a, .int .i64 b, .int .i64 c] 114)) (below_alloc1 _ (.cells #[.int .i64 pc] 3))).mono II.out.B.size |>.trans (ch8.belowB (B := w.heap.size) (fun k hk => by have := II.out.sdb k hk; omega) (Nat.le_trans II.out.B.size (by simp; omega))))); have OW8 := hide ow8; have SN8 := hide sn8; have SB8 : Hid (∀ k ∈ sd'.blk, gc < k) := (fun k hk => (bl8 k hk).elim (fun h => II.out.sdb k h) (fun h => by rw [h, size_alloc_eq, size_alloc_eq]; omega)); have hs8 := ch8.size; simp only [size_alloc_eq] at hs8; clear ow8 sn8 ch8 bl8; have x0 := X8.out.cell' (i := 0) rfl; have c0 := C8.out.cell' (i := 0) rfl; have c1 := C8.out.cell' (i := 1) rfl; have c2 := C8.out.cell' (i := 2) rfl; have c3 := C8.out.cell' (i := 3) rfl; have c4 := C8.out.cell' (i := 4) rfl; have cf := C8.out.frozen; have r0 := Gr8.out.cell' (ints_getD reg 0 (by rw [II.out.reg6]; omega)); rw [HZ.out] at r0; have hd1 := H8.out.cell' (i := 1) rfl))
              | (at_make; go_must (refine wpList_make_rowAt _ rfl (.tmp 76) (.tmp 76) 60 rfl 4 k0 (.bool false) 1 Tryz.underlying60 bi bz0 bz1 .i64 .i64 _ _ t.w.length rfl rfl (by rfl) (by rfl) MB.out NS.out ?_; intro w9 hr9 hb9; rw [made_bool] at hr9; simp only [size_setCell_eq] at hr9; have E9 := hide ((((((Chg.refl w8 (· = gc)).put ⟨gc, 0, none⟩ (.slice sd'.a sd'.n sd'.c) rfl).put ⟨gc, 1, none⟩ (.bool true) rfl).put ⟨gc, 2, none⟩ (.int .i64 z) rfl).put ⟨gc, 3, none⟩ (.slice (some ⟨gb, 0, none⟩) t.w.length t.w.length) rfl)); have C9 := hide (((((C8.out.set 0 (.slice sd'.a sd'.n sd'.c)).set 1 (.bool true)).set 2 (.int .i64 z)).set 3 (.slice (some ⟨gb, 0, none⟩) t.w.length t.w.length)).below' hb9); have R9 := hide ((R8.out.chg E9.out (by omega)).below' hb9); have Gb9 := hide ((Gb8.out.chg E9.out (by omega)).below' hb9); have OW9 := hide ((OW8.out.chg E9.out (fun k hk => by have := SB8.out k hk; omega)).below hb9); have B9 := hide ((B8.out.trans (E9.out.belowB (B := w.heap.size) (fun k hk => by omega) B8.out.size)).trans (hb9.mono (by simp only [size_setCell_eq]; exact B8.out.size))); have S9 := hide hr9; have hs9 := S9.out.lt; have d0 := C9.out.cell' (i := 0) rfl; have d1 := C9.out.cell' (i := 1) rfl; have d2 := C9.out.cell' (i := 2) rfl; have d3 := C9.out.cell' (i := 3) rfl; have d4 := C9.out.cell' (i := 4) rfl; have df := C9.out.frozen; have R90 := R9.out.cell' (i := 0) rfl; have R91 := R9.out.cell' (i := 1) rfl; have R92 := R9.out.cell' (i := 2) rfl; have R93 := R9.out.cell' (i := 3) rfl; have R94 := R9.out.cell' (i := 4) rfl; have Rf9 := R9.out.frozen; clear hr9 hb9)))
            have I := II.out
            have e8 := (((((((Chg.refl w9 (fun k => k = gc ∨ k = w.heap.size + 1)).put ⟨gc, 4, none⟩ (.slice (some ⟨w8.heap.size, 0, none⟩) t.w.length t.w.length) (Or.inl rfl)).put ⟨w.heap.size + 1, 0, none⟩ (.slice sd'.a sd'.n sd'.c) (Or.inr rfl)).put ⟨w.heap.size + 1, 1, none⟩ (.bool true) (Or.inr rfl)).put ⟨w.heap.size + 1, 2, none⟩ (.int .i64 z) (Or.inr rfl)).put ⟨w.heap.size + 1, 3, none⟩ (.slice (some ⟨gb, 0, none⟩) t.w.length t.w.length) (Or.inr rfl)).put ⟨w.heap.size + 1, 4, none⟩ (.slice (some ⟨w8.heap.size, 0, none⟩) t.w.length t.w.length) (Or.inr rfl))
            have z8 := ((((((R9.out.setOther (a := ⟨gc, 4, none⟩) (by simp; omega) (.slice (some ⟨w8.heap.size, 0, none⟩) t.w.length t.w.length)).set 0 (.slice sd'.a sd'.n sd'.c)).set 1 (.bool true)).set 2 (.int .i64 z)).set 3 (.slice (some ⟨gb, 0, none⟩) t.w.length t.w.length)).set 4 (.slice (some ⟨w8.heap.size, 0, none⟩) t.w.length t.w.length))
            have q1 := OW9.out.chg e8 (fun k hk => by have := SB8.out k hk; omega)
            have q2 := Gb9.out.chg e8 (by omega)
            have q3 := S9.out.chg e8 (by omega)
            have b8 := B9.out.trans (e8.belowB (B := w.heap.size) (fun k hk => by omega) B9.out.size)
            have hcr := HAb.out (by trivial)
            rw [HZ.out] at hcr
            generalize ((((((w9.setCell ⟨gc, 4, none⟩ (.slice (some ⟨w8.heap.size, 0, none⟩) t.w.length t.w.length)).setCell ⟨w.heap.size + 1, 0, none⟩ (.slice sd'.a sd'.n sd'.c)).setCell ⟨w.heap.size + 1, 1, none⟩ (.bool true)).setCell ⟨w.heap.size + 1, 2, none⟩ (.int .i64 z)).setCell ⟨w.heap.size + 1, 3, none⟩ (.slice (some ⟨gb, 0, none⟩) t.w.length t.w.length)).setCell ⟨w.heap.size + 1, 4, none⟩ (.slice (some ⟨w8.heap.size, 0, none⟩) t.w.length t.w.length)) = w10 at *
            have y0 := z8.cell' (i := 0) rfl
            have y1 := z8.cell' (i := 1) rfl
            have y2 := z8.cell' (i := 2) rfl
            have y3 := z8.cell' (i := 3) rfl
            have y4 := z8.cell' (i := 4) rfl
            rw [hcr]
            have ei : ints (nats did) ++ [.int .i64 pc] = ints (nats (did ++ [pc])) := by simp [ints, nats]
            rw [ei] at q1
            refine bodyPost_ret (v := .agg #[.slice sd'.a sd'.n sd'.c, .bool true, .int .i64 z, .slice (some ⟨gb, 0, none⟩) t.w.length t.w.length, .slice (some ⟨w8.heap.size, 0, none⟩) t.w.length t.w.length]) (by simp [results, Tryz.results116, go_sem, y0, y1, y2, y3, y4]) rfl
              ⟨sd', ⟨some ⟨gb, 0, none⟩, t.w.length, t.w.length⟩, ⟨some ⟨w8.heap.size, 0, none⟩, t.w.length, t.w.length⟩, rfl, q1.ints, by rw [SN8.out, I.sdn]; simp, q2.slots, by simp [befOf], (Own.of_row q3 (by simp [bools]) NS.out).bools, by simp, ?_, b8⟩
            intro k hk
            simp only [Sl.blk, List.mem_singleton] at hk
            have h8 := B8.out.size
            have l2 := q2.lt; have l3 := q3.lt
            rcases hk with hk | hk | hk
            · have := SB8.out k hk; have := q1.blk_lt k hk; omega
            · omega
            · omega
          · have hE : op ≤ 7 ∨ op = 8 ∨ op = 9 ∨ op = 10 := by omega
            have HOx := hide (fun (wx : World) hb hr ho hne hx hV => HO.out wx hb hr ho hne hx hkr hV hVl)
            have HXx := hide (fun wx hb => HX.out wx hb)
            have HNy := hide (HNx.out h11)
            clear HO HX hsnd hkr hkw H7 R7 G17 G27 G37 G47 C7 B7 HAb HNx
            have n11 : (op == 11) = false := by rw [beq_eq_false_iff_ne]; exact h11
            rcases hE with hE | hE | hE | hE
            · have n10 : (op == 10) = false := by rw [beq_eq_false_iff_ne]; omega
              have n8 : (op == 8) = false := by rw [beq_eq_false_iff_ne]; omega
              have n9 : (op == 9) = false := by rw [beq_eq_false_iff_ne]; omega
              go_wp2_with (first
                | (at_builtin; go_must (refine wpList_append_sl rfl (.tmp 59) (.tmp 61) 30 rfl 3 i0 (.int .i64 0) 1 8 Tryz.underlying30 hi hz0 hz1 hz2 rfl (by decide) sd (ints (nats did)) rfl S1.out (some ⟨wr.heap.size + 1, 0, none⟩) 1 1 [.int .i64 pc] rfl rfl (by simp) (fun ad had j u hu => by cases had; rw [addr_add, Nat.zero_add]; exact P1.out.cell' hu) (by simp [Value.oneCell']) MM.out QQ.out ?_; intro sd' w8 ow8 sn8 ch8 bl8; have X8 := hide (X1.out.chg ch8 NDX.out); have C8 := hide (((II.out.Gc.alloc _).alloc _).chg ch8 (NDB.out _ (Nat.le_refl _))); have H8 := hide (((II.out.H.alloc _).alloc _).chg ch8 (NDB.out _ (by omega))); have R8 := hide (((II.out.R.alloc _).alloc _).chg ch8 (NDB.out _ (by omega))); have Gr8 := hide (((II.out.Gr.alloc _).alloc _).chg ch8 (NDB.out _ (by omega))); have Gb8 := hide (((II.out.Gb.alloc _).alloc _).chg ch8 (NDB.out _ (by omega))); have Go8 := hide (((II.out.Go.alloc _).alloc _).chg ch8 (NDB.out _ (by omega))); have Gs8 := hide (((II.out.Gs.alloc _).alloc _).chg ch8 (NDB.out _ (by omega))); have B8 := hide (II.out.B.trans ((below_on (below_alloc1 wr (.cells #[.int .i64 op, .int .i64 a, .int .i64 b, .int .i64 c] 114)) (below_alloc1 _ (.cells #[.int .i64 pc] 3))).mono II.out.B.size |>.trans (ch8.belowB (B := w.heap.size) (fun k hk => by have := II.out.sdb k hk; omega) (Nat.le_trans II.out.B.size (by simp; omega))))); have OW8 := hide ow8; have SN8 := hide sn8; have SB8 : Hid (∀ k ∈ sd'.blk, gc < k) := (fun k hk => (bl8 k hk).elim (fun h => II.out.sdb k h) (fun h => by rw [h, size_alloc_eq, size_alloc_eq]; omega)); have hs8 := ch8.size; simp only [size_alloc_eq] at hs8; clear ow8 sn8 ch8 bl8; have x0 := X8.out.cell' (i := 0) rfl; have x1' := X8.out.cell' (i := 1) rfl; have x2' := X8.out.cell' (i := 2) rfl; have x3' := X8.out.cell' (i := 3) rfl; have c0 := C8.out.cell' (i := 0) rfl; have c4 := C8.out.cell' (i := 4) rfl; have cf := C8.out.frozen; have hd0 := H8.out.cell' (i := 0) rfl; have hd1 := H8.out.cell' (i := 1) rfl; have hd2 := H8.out.cell' (i := 2) rfl)))
              have E9 := hide ((Chg.refl w8 (fun k => k = gc ∨ k = gs)).put ⟨gc, 0, none⟩ (.slice sd'.a sd'.n sd'.c) (Or.inl rfl))
              have C9 := hide (C8.out.set 0 (.slice sd'.a sd'.n sd'.c))
              have S9 := hide (Gs8.out.setOther (a := ⟨gc, 0, none⟩) (by simp; omega) (.slice sd'.a sd'.n sd'.c))
              have Bu := hide (B8.out.trans (E9.out.belowB (B := w.heap.size) (fun k hk => by omega) B8.out.size))
              refine (HOx.out _ Bu.out (Gr8.out.chg E9.out (by omega)) (Go8.out.chg E9.out (by omega)) (by omega) (HXx.out _ Bu.out) (HV.out.below Bu.out)).mono ?_
              rintro e w10 ⟨rfl, gr10, go10, ch10⟩
              have GR := hide gr10; have GO := hide go10; have CH := hide ch10
              clear gr10 go10 ch10
              obtain ⟨l1, l2⟩ := oneStep_len ⟨op, a, b, c⟩ t.r hv reg out
              have IN : Hid (GoInv w w10 t hv [.slice ra t.r.length rc, .slice wa t.w.length wc, .slice (some ⟨b1, o1, none⟩) t.c.length cc] gb go gs gc (pc + 1) (oneStep ⟨op, a, b, c⟩ t.r hv reg out).1 (oneStep ⟨op, a, b, c⟩ t.r hv reg out).2 (did ++ [pc]) said sd') :=
                ⟨(H8.out.chg E9.out (by omega)).chg CH.out (by omega), (R8.out.chg E9.out (by omega)).chg CH.out (by omega), GR.out, (Gb8.out.chg E9.out (by omega)).chg CH.out (by omega), GO.out, S9.out.chg CH.out (by omega), C9.out.chg CH.out (by omega),
                  by have e1 : ints (nats did) ++ [.int .i64 pc] = ints (nats (did ++ [pc])) := by simp [ints, nats]
                     rw [← e1]; exact (OW8.out.chg E9.out (fun k hk => by have := SB8.out k hk; omega)).chg CH.out (fun k hk => by have := SB8.out k hk; omega),
                  by rw [SN8.out, II.out.sdn]; simp, SB8.out, Bu.out.trans (CH.out.belowB (B := w.heap.size) (fun k hk => by omega) Bu.out.size), by rw [l1]; exact II.out.reg6, by rw [l2]; exact II.out.outn, II.out.saidn, by have := II.out.didle; simp; omega, by omega, by rw [HNy.out]; simp only [nextPc, nextSaid]; rw [if_neg (by omega), if_neg (by omega)]⟩
              clear l1 l2 GR GO CH E9 C9 S9 Bu HOx HXx HNy x0 x1' x2' x3' c0 c4 cf hd0 hd1 hd2
              go_wp2
              go_roundw
              case rel => exact ⟨_, _, _, _, _, _, by go_num, IN.out⟩
              case measure => simp [intOf]; omega
            · subst hE
              obtain ⟨A, rfl⟩ : ∃ A : Nat, a = A := ⟨_, (Int.toNat_of_nonneg (xS (by omega)).1).symm⟩
              have hAw : A < t.w.length := by have := xS (by omega); omega
              have hAs : A < said.length := by rw [II.out.saidn]; exact hAw
              go_wp2_with (first
                | (at_builtin; go_must (refine wpList_append_sl rfl (.tmp 59) (.tmp 61) 30 rfl 3 i0 (.int .i64 0) 1 8 Tryz.underlying30 hi hz0 hz1 hz2 rfl (by decide) sd (ints (nats did)) rfl S1.out (some ⟨wr.heap.size + 1, 0, none⟩) 1 1 [.int .i64 pc] rfl rfl (by simp) (fun ad had j u hu => by cases had; rw [addr_add, Nat.zero_add]; exact P1.out.cell' hu) (by simp [Value.oneCell']) MM.out QQ.out ?_; intro sd' w8 ow8 sn8 ch8 bl8; have X8 := hide (X1.out.chg ch8 NDX.out); have C8 := hide (((II.out.Gc.alloc _).alloc _).chg ch8 (NDB.out _ (Nat.le_refl _))); have H8 := hide (((II.out.H.alloc _).alloc _).chg ch8 (NDB.out _ (by omega))); have R8 := hide (((II.out.R.alloc _).alloc _).chg ch8 (NDB.out _ (by omega))); have Gr8 := hide (((II.out.Gr.alloc _).alloc _).chg ch8 (NDB.out _ (by omega))); have Gb8 := hide (((II.out.Gb.alloc _).alloc _).chg ch8 (NDB.out _ (by omega))); have Go8 := hide (((II.out.Go.alloc _).alloc _).chg ch8 (NDB.out _ (by omega))); have Gs8 := hide (((II.out.Gs.alloc _).alloc _).chg ch8 (NDB.out _ (by omega))); have B8 := hide (II.out.B.trans ((below_on (below_alloc1 wr (.cells #[.int .i64 8, .int .i64 A, .int .i64 b, .int .i64 c] 114)) (below_alloc1 _ (.cells #[.int .i64 pc] 3))).mono II.out.B.size |>.trans (ch8.belowB (B := w.heap.size) (fun k hk => by have := II.out.sdb k hk; omega) (Nat.le_trans II.out.B.size (by simp; omega))))); have OW8 := hide ow8; have SN8 := hide sn8; have SB8 : Hid (∀ k ∈ sd'.blk, gc < k) := (fun k hk => (bl8 k hk).elim (fun h => II.out.sdb k h) (fun h => by rw [h, size_alloc_eq, size_alloc_eq]; omega)); have hs8 := ch8.size; simp only [size_alloc_eq] at hs8; clear ow8 sn8 ch8 bl8; have x0 := X8.out.cell' (i := 0) rfl; have x1' := X8.out.cell' (i := 1) rfl; have x2' := X8.out.cell' (i := 2) rfl; have x3' := X8.out.cell' (i := 3) rfl; have c0 := C8.out.cell' (i := 0) rfl; have c4 := C8.out.cell' (i := 4) rfl; have cf := C8.out.frozen; have hd0 := H8.out.cell' (i := 0) rfl; have hd1 := H8.out.cell' (i := 1) rfl; have hd2 := H8.out.cell' (i := 2) rfl; have s0 := Gs8.out.cell' (bools_getD said A hAs); have sf := Gs8.out.frozen)))
              have E9 := hide (((Chg.refl w8 (fun k => k = gc ∨ k = gs)).put ⟨gc, 0, none⟩ (.slice sd'.a sd'.n sd'.c) (Or.inl rfl)).put ⟨gs, A, none⟩ (.bool true) (Or.inr rfl))
              have C9 := hide (C8.out.set 0 (.slice sd'.a sd'.n sd'.c))
              replace C9 := hide (C9.out.setOther (a := ⟨gs, A, none⟩) (by simp; omega) (.bool true))
              have S9 := hide (((Gs8.out.setOther (a := ⟨gc, 0, none⟩) (by simp; omega) (.slice sd'.a sd'.n sd'.c)).set A (.bool true)))
              rw [bools_set] at S9
              have Bu := hide (B8.out.trans (E9.out.belowB (B := w.heap.size) (fun k hk => by omega) B8.out.size))
              refine (HOx.out _ Bu.out (Gr8.out.chg E9.out (by omega)) (Go8.out.chg E9.out (by omega)) (by omega) (HXx.out _ Bu.out) (HV.out.below Bu.out)).mono ?_
              rintro e w10 ⟨rfl, gr10, go10, ch10⟩
              have GR := hide gr10; have GO := hide go10; have CH := hide ch10
              clear gr10 go10 ch10
              obtain ⟨l1, l2⟩ := oneStep_len ⟨8, A, b, c⟩ t.r hv reg out
              have IN : Hid (GoInv w w10 t hv [.slice ra t.r.length rc, .slice wa t.w.length wc, .slice (some ⟨b1, o1, none⟩) t.c.length cc] gb go gs gc (pc + 1) (oneStep ⟨8, A, b, c⟩ t.r hv reg out).1 (oneStep ⟨8, A, b, c⟩ t.r hv reg out).2 (did ++ [pc]) (said.set A true) sd') :=
                ⟨(H8.out.chg E9.out (by omega)).chg CH.out (by omega), (R8.out.chg E9.out (by omega)).chg CH.out (by omega), GR.out, (Gb8.out.chg E9.out (by omega)).chg CH.out (by omega), GO.out, S9.out.chg CH.out (by omega), C9.out.chg CH.out (by omega),
                  by have e1 : ints (nats did) ++ [.int .i64 pc] = ints (nats (did ++ [pc])) := by simp [ints, nats]
                     rw [← e1]; exact (OW8.out.chg E9.out (fun k hk => by have := SB8.out k hk; omega)).chg CH.out (fun k hk => by have := SB8.out k hk; omega),
                  by rw [SN8.out, II.out.sdn]; simp, SB8.out, Bu.out.trans (CH.out.belowB (B := w.heap.size) (fun k hk => by omega) Bu.out.size), by rw [l1]; exact II.out.reg6, by rw [l2]; exact II.out.outn, by simp; exact II.out.saidn, by have := II.out.didle; simp; omega, by omega, by rw [HNy.out]; simp [nextPc, nextSaid]⟩
              clear l1 l2 GR GO CH E9 C9 S9 Bu HOx HXx HNy x0 x1' x2' x3' c0 c4 cf hd0 hd1 hd2 s0 sf
              go_wp2
              go_roundw
              case rel => exact ⟨_, _, _, _, _, _, by go_num, IN.out⟩
              case measure => simp [intOf]; omega
            · subst hE
              obtain ⟨A, rfl⟩ : ∃ A : Nat, a = A := ⟨_, (Int.toNat_of_nonneg (xS (by omega)).1).symm⟩
              have hAw : A < t.w.length := by have := xS (by omega); omega
              have hAs : A < said.length := by rw [II.out.saidn]; exact hAw
              go_wp2_with (first
                | (at_builtin; go_must (refine wpList_append_sl rfl (.tmp 59) (.tmp 61) 30 rfl 3 i0 (.int .i64 0) 1 8 Tryz.underlying30 hi hz0 hz1 hz2 rfl (by decide) sd (ints (nats did)) rfl S1.out (some ⟨wr.heap.size + 1, 0, none⟩) 1 1 [.int .i64 pc] rfl rfl (by simp) (fun ad had j u hu => by cases had; rw [addr_add, Nat.zero_add]; exact P1.out.cell' hu) (by simp [Value.oneCell']) MM.out QQ.out ?_; intro sd' w8 ow8 sn8 ch8 bl8; have X8 := hide (X1.out.chg ch8 NDX.out); have C8 := hide (((II.out.Gc.alloc _).alloc _).chg ch8 (NDB.out _ (Nat.le_refl _))); have H8 := hide (((II.out.H.alloc _).alloc _).chg ch8 (NDB.out _ (by omega))); have R8 := hide (((II.out.R.alloc _).alloc _).chg ch8 (NDB.out _ (by omega))); have Gr8 := hide (((II.out.Gr.alloc _).alloc _).chg ch8 (NDB.out _ (by omega))); have Gb8 := hide (((II.out.Gb.alloc _).alloc _).chg ch8 (NDB.out _ (by omega))); have Go8 := hide (((II.out.Go.alloc _).alloc _).chg ch8 (NDB.out _ (by omega))); have Gs8 := hide (((II.out.Gs.alloc _).alloc _).chg ch8 (NDB.out _ (by omega))); have B8 := hide (II.out.B.trans ((below_on (below_alloc1 wr (.cells #[.int .i64 9, .int .i64 A, .int .i64 b, .int .i64 c] 114)) (below_alloc1 _ (.cells #[.int .i64 pc] 3))).mono II.out.B.size |>.trans (ch8.belowB (B := w.heap.size) (fun k hk => by have := II.out.sdb k hk; omega) (Nat.le_trans II.out.B.size (by simp; omega))))); have OW8 := hide ow8; have SN8 := hide sn8; have SB8 : Hid (∀ k ∈ sd'.blk, gc < k) := (fun k hk => (bl8 k hk).elim (fun h => II.out.sdb k h) (fun h => by rw [h, size_alloc_eq, size_alloc_eq]; omega)); have hs8 := ch8.size; simp only [size_alloc_eq] at hs8; clear ow8 sn8 ch8 bl8; have x0 := X8.out.cell' (i := 0) rfl; have x1' := X8.out.cell' (i := 1) rfl; have x2' := X8.out.cell' (i := 2) rfl; have x3' := X8.out.cell' (i := 3) rfl; have c0 := C8.out.cell' (i := 0) rfl; have c4 := C8.out.cell' (i := 4) rfl; have cf := C8.out.frozen; have hd0 := H8.out.cell' (i := 0) rfl; have hd1 := H8.out.cell' (i := 1) rfl; have hd2 := H8.out.cell' (i := 2) rfl; have s0 := Gs8.out.cell' (bools_getD said A hAs); have sf := Gs8.out.frozen)))
              have E9 := hide (((Chg.refl w8 (fun k => k = gc ∨ k = gs)).put ⟨gc, 0, none⟩ (.slice sd'.a sd'.n sd'.c) (Or.inl rfl)).put ⟨gs, A, none⟩ (.bool true) (Or.inr rfl))
              have C9 := hide (C8.out.set 0 (.slice sd'.a sd'.n sd'.c))
              replace C9 := hide (C9.out.setOther (a := ⟨gs, A, none⟩) (by simp; omega) (.bool true))
              have S9 := hide (((Gs8.out.setOther (a := ⟨gc, 0, none⟩) (by simp; omega) (.slice sd'.a sd'.n sd'.c)).set A (.bool true)))
              rw [bools_set] at S9
              have Bu := hide (B8.out.trans (E9.out.belowB (B := w.heap.size) (fun k hk => by omega) B8.out.size))
              refine (HOx.out _ Bu.out (Gr8.out.chg E9.out (by omega)) (Go8.out.chg E9.out (by omega)) (by omega) (HXx.out _ Bu.out) (HV.out.below Bu.out)).mono ?_
              rintro e w10 ⟨rfl, gr10, go10, ch10⟩
              have GR := hide gr10; have GO := hide go10; have CH := hide ch10
              clear gr10 go10 ch10
              obtain ⟨l1, l2⟩ := oneStep_len ⟨9, A, b, c⟩ t.r hv reg out
              have IN : Hid (GoInv w w10 t hv [.slice ra t.r.length rc, .slice wa t.w.length wc, .slice (some ⟨b1, o1, none⟩) t.c.length cc] gb go gs gc (pc + 1) (oneStep ⟨9, A, b, c⟩ t.r hv reg out).1 (oneStep ⟨9, A, b, c⟩ t.r hv reg out).2 (did ++ [pc]) (said.set A true) sd') :=
                ⟨(H8.out.chg E9.out (by omega)).chg CH.out (by omega), (R8.out.chg E9.out (by omega)).chg CH.out (by omega), GR.out, (Gb8.out.chg E9.out (by omega)).chg CH.out (by omega), GO.out, S9.out.chg CH.out (by omega), C9.out.chg CH.out (by omega),
                  by have e1 : ints (nats did) ++ [.int .i64 pc] = ints (nats (did ++ [pc])) := by simp [ints, nats]
                     rw [← e1]; exact (OW8.out.chg E9.out (fun k hk => by have := SB8.out k hk; omega)).chg CH.out (fun k hk => by have := SB8.out k hk; omega),
                  by rw [SN8.out, II.out.sdn]; simp, SB8.out, Bu.out.trans (CH.out.belowB (B := w.heap.size) (fun k hk => by omega) Bu.out.size), by rw [l1]; exact II.out.reg6, by rw [l2]; exact II.out.outn, by simp; exact II.out.saidn, by have := II.out.didle; simp; omega, by omega, by rw [HNy.out]; simp [nextPc, nextSaid]⟩
              clear l1 l2 GR GO CH E9 C9 S9 Bu HOx HXx HNy x0 x1' x2' x3' c0 c4 cf hd0 hd1 hd2 s0 sf
              go_wp2
              go_roundw
              case rel => exact ⟨_, _, _, _, _, _, by go_num, IN.out⟩
              case measure => simp [intOf]; omega
            · subst hE
              obtain ⟨A, rfl⟩ : ∃ A : Nat, a = A := ⟨_, (Int.toNat_of_nonneg (xA (by omega)).1).symm⟩
              have hA6 : A < 6 := by have := xA (by omega); omega
              obtain ⟨Bn, rfl⟩ : ∃ Bn : Nat, b = Bn := ⟨_, (Int.toNat_of_nonneg (by have := xP (by omega); omega)).symm⟩
              have hB30 : Bn ≤ 30 := by have := xP (by omega); omega
              have hAr : A < reg.length := by rw [II.out.reg6]; exact hA6
              obtain ⟨z, hz⟩ : ∃ z, z = reg.getD A 0 := ⟨_, rfl⟩
              have HZ := hide hz.symm
              clear hz
              by_cases hz0' : z = 0
              · have hzb : (z == 0) = true := by rw [beq_iff_eq]; exact hz0'
                have HZ0 := hide hz0'
                clear hz0'
                go_wp2_with (first
                  | (at_builtin; go_must (refine wpList_append_sl rfl (.tmp 59) (.tmp 61) 30 rfl 3 i0 (.int .i64 0) 1 8 Tryz.underlying30 hi hz0 hz1 hz2 rfl (by decide) sd (ints (nats did)) rfl S1.out (some ⟨wr.heap.size + 1, 0, none⟩) 1 1 [.int .i64 pc] rfl rfl (by simp) (fun ad had j u hu => by cases had; rw [addr_add, Nat.zero_add]; exact P1.out.cell' hu) (by simp [Value.oneCell']) MM.out QQ.out ?_; intro sd' w8 ow8 sn8 ch8 bl8; have X8 := hide (X1.out.chg ch8 NDX.out); have C8 := hide (((II.out.Gc.alloc _).alloc _).chg ch8 (NDB.out _ (Nat.le_refl _))); have H8 := hide (((II.out.H.alloc _).alloc _).chg ch8 (NDB.out _ (by omega))); have R8 := hide (((II.out.R.alloc _).alloc _).chg ch8 (NDB.out _ (by omega))); have Gr8 := hide (((II.out.Gr.alloc _).alloc _).chg ch8 (NDB.out _ (by omega))); have Gb8 := hide (((II.out.Gb.alloc _).alloc _).chg ch8 (NDB.out _ (by omega))); have Go8 := hide (((II.out.Go.alloc _).alloc _).chg ch8 (NDB.out _ (by omega))); have Gs8 := hide (((II.out.Gs.alloc _).alloc _).chg ch8 (NDB.out _ (by omega))); have B8 := hide (II.out.B.trans ((below_on (below_alloc1 wr (.cells #[.int .i64 10, .int .i64 A, .int .i64 Bn, .int .i64 c] 114)) (below_alloc1 _ (.cells #[.int .i64 pc] 3))).mono II.out.B.size |>.trans (ch8.belowB (B := w.heap.size) (fun k hk => by have := II.out.sdb k hk; omega) (Nat.le_trans II.out.B.size (by simp; omega))))); have OW8 := hide ow8; have SN8 := hide sn8; have SB8 : Hid (∀ k ∈ sd'.blk, gc < k) := (fun k hk => (bl8 k hk).elim (fun h => II.out.sdb k h) (fun h => by rw [h, size_alloc_eq, size_alloc_eq]; omega)); have hs8 := ch8.size; simp only [size_alloc_eq] at hs8; clear ow8 sn8 ch8 bl8; have x0 := X8.out.cell' (i := 0) rfl; have x1' := X8.out.cell' (i := 1) rfl; have x2' := X8.out.cell' (i := 2) rfl; have x3' := X8.out.cell' (i := 3) rfl; have c0 := C8.out.cell' (i := 0) rfl; have c4 := C8.out.cell' (i := 4) rfl; have cf := C8.out.frozen; have hd0 := H8.out.cell' (i := 0) rfl; have hd1 := H8.out.cell' (i := 1) rfl; have hd2 := H8.out.cell' (i := 2) rfl; have r0 := Gr8.out.cell' (ints_getD reg A hAr); rw [HZ.out] at r0)))
                have E9 := hide ((Chg.refl w8 (fun k => k = gc ∨ k = gs)).put ⟨gc, 0, none⟩ (.slice sd'.a sd'.n sd'.c) (Or.inl rfl))
                have C9 := hide (C8.out.set 0 (.slice sd'.a sd'.n sd'.c))
                have S9 := hide (Gs8.out.setOther (a := ⟨gc, 0, none⟩) (by simp; omega) (.slice sd'.a sd'.n sd'.c))
                have Bu := hide (B8.out.trans (E9.out.belowB (B := w.heap.size) (fun k hk => by omega) B8.out.size))
                refine (HOx.out _ Bu.out (Gr8.out.chg E9.out (by omega)) (Go8.out.chg E9.out (by omega)) (by omega) (HXx.out _ Bu.out) (HV.out.below Bu.out)).mono ?_
                rintro e w10 ⟨rfl, gr10, go10, ch10⟩
                have GR := hide gr10; have GO := hide go10; have CH := hide ch10
                clear gr10 go10 ch10
                obtain ⟨l1, l2⟩ := oneStep_len ⟨10, A, Bn, c⟩ t.r hv reg out
                have IN : Hid (GoInv w w10 t hv [.slice ra t.r.length rc, .slice wa t.w.length wc, .slice (some ⟨b1, o1, none⟩) t.c.length cc] gb go gs gc (pc + Bn + 1) (oneStep ⟨10, A, Bn, c⟩ t.r hv reg out).1 (oneStep ⟨10, A, Bn, c⟩ t.r hv reg out).2 (did ++ [pc]) said sd') :=
                  ⟨(H8.out.chg E9.out (by omega)).chg CH.out (by omega), (R8.out.chg E9.out (by omega)).chg CH.out (by omega), GR.out, (Gb8.out.chg E9.out (by omega)).chg CH.out (by omega), GO.out, S9.out.chg CH.out (by omega), C9.out.chg CH.out (by omega),
                    by have e1 : ints (nats did) ++ [.int .i64 pc] = ints (nats (did ++ [pc])) := by simp [ints, nats]
                       rw [← e1]; exact (OW8.out.chg E9.out (fun k hk => by have := SB8.out k hk; omega)).chg CH.out (fun k hk => by have := SB8.out k hk; omega),
                    by rw [SN8.out, II.out.sdn]; simp, SB8.out, Bu.out.trans (CH.out.belowB (B := w.heap.size) (fun k hk => by omega) Bu.out.size), by rw [l1]; exact II.out.reg6, by rw [l2]; exact II.out.outn, II.out.saidn, by have := II.out.didle; simp; omega, by omega, by rw [HNy.out]; simp only [nextPc, nextSaid]; rw [if_pos ⟨by trivial, (show regOf reg (A : Int) = 0 by rw [regOf, Int.toNat_natCast, HZ.out, HZ0.out])⟩, if_neg (by omega)]; rfl⟩
                clear l1 l2 GR GO CH E9 C9 S9 Bu HOx HXx HNy x0 x1' x2' x3' c0 c4 cf hd0 hd1 hd2 r0
                go_wp2
                go_roundw
                case rel => exact ⟨_, _, _, _, _, _, by go_num, IN.out⟩
                case measure => simp [intOf]; omega
              · have hzb : (z == 0) = false := by rw [beq_eq_false_iff_ne]; exact hz0'
                go_wp2_with (first
                  | (at_builtin; go_must (refine wpList_append_sl rfl (.tmp 59) (.tmp 61) 30 rfl 3 i0 (.int .i64 0) 1 8 Tryz.underlying30 hi hz0 hz1 hz2 rfl (by decide) sd (ints (nats did)) rfl S1.out (some ⟨wr.heap.size + 1, 0, none⟩) 1 1 [.int .i64 pc] rfl rfl (by simp) (fun ad had j u hu => by cases had; rw [addr_add, Nat.zero_add]; exact P1.out.cell' hu) (by simp [Value.oneCell']) MM.out QQ.out ?_; intro sd' w8 ow8 sn8 ch8 bl8; have X8 := hide (X1.out.chg ch8 NDX.out); have C8 := hide (((II.out.Gc.alloc _).alloc _).chg ch8 (NDB.out _ (Nat.le_refl _))); have H8 := hide (((II.out.H.alloc _).alloc _).chg ch8 (NDB.out _ (by omega))); have R8 := hide (((II.out.R.alloc _).alloc _).chg ch8 (NDB.out _ (by omega))); have Gr8 := hide (((II.out.Gr.alloc _).alloc _).chg ch8 (NDB.out _ (by omega))); have Gb8 := hide (((II.out.Gb.alloc _).alloc _).chg ch8 (NDB.out _ (by omega))); have Go8 := hide (((II.out.Go.alloc _).alloc _).chg ch8 (NDB.out _ (by omega))); have Gs8 := hide (((II.out.Gs.alloc _).alloc _).chg ch8 (NDB.out _ (by omega))); have B8 := hide (II.out.B.trans ((below_on (below_alloc1 wr (.cells #[.int .i64 10, .int .i64 A, .int .i64 Bn, .int .i64 c] 114)) (below_alloc1 _ (.cells #[.int .i64 pc] 3))).mono II.out.B.size |>.trans (ch8.belowB (B := w.heap.size) (fun k hk => by have := II.out.sdb k hk; omega) (Nat.le_trans II.out.B.size (by simp; omega))))); have OW8 := hide ow8; have SN8 := hide sn8; have SB8 : Hid (∀ k ∈ sd'.blk, gc < k) := (fun k hk => (bl8 k hk).elim (fun h => II.out.sdb k h) (fun h => by rw [h, size_alloc_eq, size_alloc_eq]; omega)); have hs8 := ch8.size; simp only [size_alloc_eq] at hs8; clear ow8 sn8 ch8 bl8; have x0 := X8.out.cell' (i := 0) rfl; have x1' := X8.out.cell' (i := 1) rfl; have x2' := X8.out.cell' (i := 2) rfl; have x3' := X8.out.cell' (i := 3) rfl; have c0 := C8.out.cell' (i := 0) rfl; have c4 := C8.out.cell' (i := 4) rfl; have cf := C8.out.frozen; have hd0 := H8.out.cell' (i := 0) rfl; have hd1 := H8.out.cell' (i := 1) rfl; have hd2 := H8.out.cell' (i := 2) rfl; have r0 := Gr8.out.cell' (ints_getD reg A hAr); rw [HZ.out] at r0)))
                have E9 := hide ((Chg.refl w8 (fun k => k = gc ∨ k = gs)).put ⟨gc, 0, none⟩ (.slice sd'.a sd'.n sd'.c) (Or.inl rfl))
                have C9 := hide (C8.out.set 0 (.slice sd'.a sd'.n sd'.c))
                have S9 := hide (Gs8.out.setOther (a := ⟨gc, 0, none⟩) (by simp; omega) (.slice sd'.a sd'.n sd'.c))
                have Bu := hide (B8.out.trans (E9.out.belowB (B := w.heap.size) (fun k hk => by omega) B8.out.size))
                refine (HOx.out _ Bu.out (Gr8.out.chg E9.out (by omega)) (Go8.out.chg E9.out (by omega)) (by omega) (HXx.out _ Bu.out) (HV.out.below Bu.out)).mono ?_
                rintro e w10 ⟨rfl, gr10, go10, ch10⟩
                have GR := hide gr10; have GO := hide go10; have CH := hide ch10
                clear gr10 go10 ch10
                obtain ⟨l1, l2⟩ := oneStep_len ⟨10, A, Bn, c⟩ t.r hv reg out
                have IN : Hid (GoInv w w10 t hv [.slice ra t.r.length rc, .slice wa t.w.length wc, .slice (some ⟨b1, o1, none⟩) t.c.length cc] gb go gs gc (pc + 1) (oneStep ⟨10, A, Bn, c⟩ t.r hv reg out).1 (oneStep ⟨10, A, Bn, c⟩ t.r hv reg out).2 (did ++ [pc]) said sd') :=
                  ⟨(H8.out.chg E9.out (by omega)).chg CH.out (by omega), (R8.out.chg E9.out (by omega)).chg CH.out (by omega), GR.out, (Gb8.out.chg E9.out (by omega)).chg CH.out (by omega), GO.out, S9.out.chg CH.out (by omega), C9.out.chg CH.out (by omega),
                    by have e1 : ints (nats did) ++ [.int .i64 pc] = ints (nats (did ++ [pc])) := by simp [ints, nats]
                       rw [← e1]; exact (OW8.out.chg E9.out (fun k hk => by have := SB8.out k hk; omega)).chg CH.out (fun k hk => by have := SB8.out k hk; omega),
                    by rw [SN8.out, II.out.sdn]; simp, SB8.out, Bu.out.trans (CH.out.belowB (B := w.heap.size) (fun k hk => by omega) Bu.out.size), by rw [l1]; exact II.out.reg6, by rw [l2]; exact II.out.outn, II.out.saidn, by have := II.out.didle; simp; omega, by omega, by rw [HNy.out]; simp only [nextPc, nextSaid]; rw [if_neg (fun hh => hz0' (by rw [← HZ.out]; exact hh.2)), if_neg (by omega)]⟩
                clear l1 l2 GR GO CH E9 C9 S9 Bu HOx HXx HNy x0 x1' x2' x3' c0 c4 cf hd0 hd1 hd2 r0
                go_wp2
                go_roundw
                case rel => exact ⟨_, _, _, _, _, _, by go_num, IN.out⟩
                case measure => simp [intOf]; omega
        · have hcr := goAt_end (hv := hv) (bef := befOf t hv) (reg := reg) (out := out) (did := did) (said := said) hlt
          rw [I.crs] at hcr
          have r0 := I.Gr.cell' (ints_getD reg 0 (by rw [I.reg6]; omega))
          have gc0 := I.Gc.cell' (i := 0) rfl
          have gc1 := I.Gc.cell' (i := 1) rfl
          have gc2 := I.Gc.cell' (i := 2) rfl
          have gc3 := I.Gc.cell' (i := 3) rfl
          have gc4 := I.Gc.cell' (i := 4) rfl
          have gcf := I.Gc.frozen
          have R0 := I.R.cell' (i := 0) rfl
          have R1 := I.R.cell' (i := 1) rfl
          have R2 := I.R.cell' (i := 2) rfl
          have R3 := I.R.cell' (i := 3) rfl
          have R4 := I.R.cell' (i := 4) rfl
          have Rf := I.R.frozen
          have II := hide I
          clear I
          generalize reg.getD 0 0 = z at *
          clear HX HV hsnd hkr hkw H7 R7 G17 G27 G37 G47 C7 B7
          go_wp2
          have I := II.out
          have e8 := (((((((((Chg.refl wr (fun k => k = gc ∨ k = w.heap.size + 1)).put ⟨gc, 1, none⟩ (.bool false) (Or.inl rfl)).put ⟨gc, 2, none⟩ (.int .i64 z) (Or.inl rfl)).put ⟨gc, 3, none⟩ (.slice (some ⟨go, 0, none⟩) t.w.length t.w.length) (Or.inl rfl)).put
            ⟨w.heap.size + 1, 0, none⟩ (.slice sd.a sd.n sd.c) (Or.inr rfl)).put ⟨w.heap.size + 1, 1, none⟩ (.bool false) (Or.inr rfl)).put ⟨w.heap.size + 1, 2, none⟩ (.int .i64 z) (Or.inr rfl)).put ⟨w.heap.size + 1, 3, none⟩ (.slice (some ⟨go, 0, none⟩) t.w.length t.w.length) (Or.inr rfl)).put ⟨w.heap.size + 1, 4, none⟩ (.slice (some ⟨gs, 0, none⟩) t.w.length t.w.length) (Or.inr rfl))
          have z8 := ((((((((I.R.setOther (a := ⟨gc, 1, none⟩) (by simp; omega) (.bool false)).setOther (a := ⟨gc, 2, none⟩) (by simp; omega) (.int .i64 z)).setOther (a := ⟨gc, 3, none⟩) (by simp; omega) (.slice (some ⟨go, 0, none⟩) t.w.length t.w.length)).set
            0 (.slice sd.a sd.n sd.c)).set 1 (.bool false)).set 2 (.int .i64 z)).set 3 (.slice (some ⟨go, 0, none⟩) t.w.length t.w.length)).set 4 (.slice (some ⟨gs, 0, none⟩) t.w.length t.w.length))
          have q1 := I.Sd.chg e8 (fun k hk => by have := I.sdb k hk; omega)
          have q2 := I.Go.chg e8 (by omega)
          have q3 := I.Gs.chg e8 (by omega)
          have b8 := I.B.trans (e8.belowB (B := w.heap.size) (fun k hk => by omega) I.B.size)
          generalize ((((((((wr.setCell ⟨gc, 1, none⟩ (.bool false)).setCell ⟨gc, 2, none⟩ (.int .i64 z)).setCell ⟨gc, 3, none⟩ (.slice (some ⟨go, 0, none⟩) t.w.length t.w.length)).setCell ⟨w.heap.size + 1, 0, none⟩ (.slice sd.a sd.n sd.c)).setCell ⟨w.heap.size + 1, 1, none⟩ (.bool false)).setCell ⟨w.heap.size + 1, 2, none⟩ (.int .i64 z)).setCell ⟨w.heap.size + 1, 3, none⟩ (.slice (some ⟨go, 0, none⟩) t.w.length t.w.length)).setCell ⟨w.heap.size + 1, 4, none⟩ (.slice (some ⟨gs, 0, none⟩) t.w.length t.w.length)) = w8 at *
          have y0 := z8.cell' (i := 0) rfl
          have y1 := z8.cell' (i := 1) rfl
          have y2 := z8.cell' (i := 2) rfl
          have y3 := z8.cell' (i := 3) rfl
          have y4 := z8.cell' (i := 4) rfl
          rw [hcr]
          refine bodyPost_ret (v := .agg #[.slice sd.a sd.n sd.c, .bool false, .int .i64 z, .slice (some ⟨go, 0, none⟩) t.w.length t.w.length, .slice (some ⟨gs, 0, none⟩) t.w.length t.w.length]) (by simp [results, Tryz.results116, go_sem, y0, y1, y2, y3, y4]) rfl
            ⟨sd, ⟨some ⟨go, 0, none⟩, t.w.length, t.w.length⟩, ⟨some ⟨gs, 0, none⟩, t.w.length, t.w.length⟩, rfl, q1.ints, I.sdn, q2.slots, I.outn.symm, (Own.of_row q3 (by simp [bools, I.saidn]) NS.out).bools, I.saidn.symm, ?_, b8⟩
          intro k hk
          simp only [List.mem_append, Sl.blk, List.mem_singleton] at hk
          have := hgbl; have := hgol; have := hgsl; have := gb2
          have l2 := q2.lt; have l3 := q3.lt
          rcases hk with hk | hk | hk
          · have := I.sdb k hk; have := q1.blk_lt k hk; omega
          · omega
          · omega

end Go.Proofs.YtlheloogmgmjnaaGreat
