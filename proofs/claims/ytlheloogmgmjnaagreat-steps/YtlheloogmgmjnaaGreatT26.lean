import Derived.Test.YtlheloogmgmjnaaGreatT21
import Derived.Test.YtlheloogmgmjnaaGreatT22
import Derived.Test.YtlheloogmgmjnaaGreatT16
import Derived.Test.YtlheloogmgmjnaaGreatT11
namespace Go.Proofs.YtlheloogmgmjnaaGreat
open Go.RowKit

def Tx.nil : Tx := ⟨[], [], []⟩
def TH.nil : TH := ⟨⟨none, 0, 0⟩, ⟨none, 0, 0⟩, ⟨none, 0, 0⟩⟩

/-- What the keys have when the first i have been done. -/
def behindTo (ts : List Tx) : Nat → List Slot
  | 0 => List.replicate 24 Slot.none
  | i + 1 => putTo (behindTo ts i) (ts.getD i Tx.nil).w (goCrs (ts.getD i Tx.nil) (behindTo ts i)).ws (ts.getD i Tx.nil).w.length
theorem behindTo_len (ts : List Tx) (i : Nat) : (behindTo ts i).length = 24 := by
  induction i with
  | zero => simp [behindTo]
  | succ i ih => rw [behindTo, putTo_len, ih]

/-- Transactions lie from an address on, three cells each. -/
structure TxsAt (w : World) (b o : Nat) (hs : List TH) (ts : List Tx) : Prop where
  len : hs.length = ts.length
  c0 : ∀ i, i < ts.length → w.cell? ⟨b, o + i * 3, none⟩ = some (.slice (hs.getD i TH.nil).r.a (hs.getD i TH.nil).r.n (hs.getD i TH.nil).r.c)
  c1 : ∀ i, i < ts.length → w.cell? ⟨b, o + i * 3 + 1, none⟩ = some (.slice (hs.getD i TH.nil).w.a (hs.getD i TH.nil).w.n (hs.getD i TH.nil).w.c)
  c2 : ∀ i, i < ts.length → w.cell? ⟨b, o + i * 3 + 2, none⟩ = some (.slice (hs.getD i TH.nil).c.a (hs.getD i TH.nil).c.n (hs.getD i TH.nil).c.c)
  tx : ∀ i, i < ts.length → TxAt w (hs.getD i TH.nil) (ts.getD i Tx.nil)
  chk : ∀ i, i < ts.length → checkN (ts.getD i Tx.nil) = 0

theorem TxsAt.below {w w' : World} {b o : Nat} {hs : List TH} {ts : List Tx} (h : TxsAt w b o hs ts) (hb : Below w.heap.size w w') : TxsAt w' b o hs ts :=
  ⟨h.len, fun i hi => cell_below hb (Nat.le_refl _) (h.c0 i hi), fun i hi => cell_below hb (Nat.le_refl _) (h.c1 i hi), fun i hi => cell_below hb (Nat.le_refl _) (h.c2 i hi), fun i hi => (h.tx i hi).below hb, h.chk⟩

theorem RowAt.slots24 {w : World} {g : Nat} {t : TypeId} {l : List Slot} (h : RowAt w g t (slotCells l)) : SlotsAt w (some ⟨g, 0, none⟩) l := by
  refine Or.inr ⟨g, 0, rfl, fun i hi => ?_⟩
  obtain ⟨h0, h1⟩ := slotCells_get l i hi
  exact ⟨by rw [Nat.zero_add]; exact h.cell' h0, by rw [Nat.zero_add]; exact h.cell' h1⟩

set_option maxHeartbeats 4000000 in
set_option maxRecDepth 100000 in
theorem rBehind_any (b o cap : Nat) (hs : List TH) (ts : List Tx) (w : World) (h : TxsAt w b o hs ts) (hl : ts.length ≤ 150) :
    Calls Tryz.prog 119 #[.slice (some ⟨b, o, none⟩) ts.length cap, .int .i64 ts.length] w fun e w' => ∃ g, e = .returned (.slice (some ⟨g, 0, none⟩) 24 24) ∧ RowAt w' g 172 (slotCells (behindTo ts ts.length)) ∧ Below w.heap.size w w' := by
  have hms : ∀ wx : World, (Instr.makeSlice 40 (.int .i64 24) (.int .i64 24)).run Tryz.prog wx = .ok (.slice (some ⟨wx.heap.size, 0, none⟩) 24 24) (wx.alloc (.cells zeroSlots.toArray 172)) := fun wx => by kernel_rfl
  have HT := hide (fun wx (hb : Below w.heap.size w wx) => h.below hb)
  have Z0 := hide (rowAt_alloc w zeroSlots 172)
  have B0 := hide (below_alloc1 w (.cells zeroSlots.toArray 172))
  clear h
  generalize hZ : zeroSlots.toArray = ZS at *
  go_enter Tryz.func119, Tryz.ntmps119
  go_wp2
  generalize w.alloc (.cells ZS 172) = W0 at *
  obtain ⟨gh, hgh⟩ : ∃ gh, gh = w.heap.size := ⟨_, rfl⟩
  rw [← hgh] at Z0 ⊢
  have HGH := hide hgh
  clear hZ hms hgh
  go_loopw [6, 7, 8] (fun i _ _ wr => ∃ j : Nat, j ≤ ts.length ∧ i = .int .i64 j ∧ Hid (RowAt wr gh 172 (slotCells (behindTo ts j))) ∧ Hid (Below w.heap.size w wr)) (fun i _ _ _ => ts.length - (intOf i).toNat)
  case atStart => exact ⟨0, Nat.zero_le _, rfl, Z0, B0⟩
  case round =>
    obtain ⟨j, hj, rfl, ZJ, BJ⟩ := hrel
    clear Z0 B0
    by_cases hlt : j < ts.length
    · have hTx := (HT.out wr BJ.out).tx j hlt
      have t0 := (HT.out wr BJ.out).c0 j hlt
      have t1 := (HT.out wr BJ.out).c1 j hlt
      have t2 := (HT.out wr BJ.out).c2 j hlt
      have hck := (HT.out wr BJ.out).chk j hlt
      have GO := hide (rGo_any (hs.getD j TH.nil) (ts.getD j Tx.nil) (behindTo ts j) (some ⟨gh, 0, none⟩) 24 wr hTx hck ZJ.out.slots24 (behindTo_len ts j))
      have HSU := hide (show behindTo ts (j + 1) = putTo (behindTo ts j) (ts.getD j Tx.nil).w (goCrs (ts.getD j Tx.nil) (behindTo ts j)).ws (ts.getD j Tx.nil).w.length from rfl)
      have HTX := hide (fun wx (hb : Below w.heap.size w wx) => (HT.out wx hb).tx j hlt)
      have HC1 := hide (fun wx (hb : Below w.heap.size w wx) => (HT.out wx hb).c1 j hlt)
      have hwl := hTx.wl
      have HVL := hide (behindTo_len ts j)
      have hkw := hide (checkN_sound _ hck).2.2.2.2.1
      have w6 := (checkN_sound _ hck).2.2.1
      have GLn := hide (goCrs_len (ts.getD j Tx.nil) (behindTo ts j)).1
      generalize hs.getD j TH.nil = hd at *
      generalize behindTo ts j = hv at *
      generalize ts.getD j Tx.nil = t at *
      obtain ⟨⟨ra, rn, rc⟩, ⟨wa, wn, wc⟩, ⟨ca, cn, cc⟩⟩ := hd
      simp only [TH.cells] at GO t0 t1 t2 hwl HC1
      subst hwl
      have hj' : (j : Int) < (ts.length : Int) := by omega
      clear hTx hck
      go_wp2_with fail
      refine GO.out.mono ?_
      rintro e w1 ⟨sd, sw, ss, rfl, g1, g2, g3, g4, g5, g6, g7, hb1⟩
      have hghw : w.heap.size ≤ gh := by rw [HGH.out]; exact Nat.le_refl _
      have Z1 := hide (ZJ.out.below' hb1)
      have CV := hide (rowAt_alloc w1 [.slice sd.a sd.n sd.c, .bool (goCrs t hv).ab, .int .i64 (goCrs t hv).out, .slice sw.a sw.n sw.c, .slice ss.a ss.n ss.c] 168)
      have BC := hide (below_alloc1 w1 (.cells #[.slice sd.a sd.n sd.c, .bool (goCrs t hv).ab, .int .i64 (goCrs t hv).out, .slice sw.a sw.n sw.c, .slice ss.a ss.n ss.c] 168))
      have B1 := hide (below_on (below_on BJ.out hb1) BC.out)
      have Z2 := hide (Z1.out.below' BC.out)
      have SW := hide (g3.below BC.out)
      have SWN := hide (show sw.n = t.w.length by rw [g4]; exact GLn.out)
      have SWB := hide (fun k (hk : k ∈ sw.blk) => (g7 k (by simp [hk])).1)
      have ghl := Z1.out.lt
      have ghl0 := ZJ.out.lt
      clear g1 g2 g3 g4 g5 g6 g7 hb1 GO Z1 t0 t1 t2
      obtain ⟨gc, hgc⟩ : ∃ gc, gc = w1.heap.size := ⟨_, rfl⟩
      rw [← hgc] at CV
      have hgcn : gh < gc := by omega
      generalize (goCrs t hv).ab = ab at *
      generalize (goCrs t hv).out = ot at *
      generalize hws : (goCrs t hv).ws = ws at *
      clear hws
      go_wp2
      rw [← hgc]
      clear hgc
      change Hid (RowAt (w1.alloc (.cells #[.slice sd.a sd.n sd.c, .bool ab, .int .i64 ot, .slice sw.a sw.n sw.c, .slice ss.a ss.n ss.c] 168)) gc 168 [.slice sd.a sd.n sd.c, .bool ab, .int .i64 ot, .slice sw.a sw.n sw.c, .slice ss.a ss.n ss.c]) at CV
      generalize w1.alloc (.cells #[.slice sd.a sd.n sd.c, .bool ab, .int .i64 ot, .slice sw.a sw.n sw.c, .slice ss.a ss.n ss.c] 168) = W1 at *
      go_loopw [8] (fun kk wr2 => ∃ k : Nat, k ≤ t.w.length ∧ kk = .int .i64 k ∧ Hid (RowAt wr2 gh 172 (slotCells (putTo hv t.w ws k))) ∧ Hid (Chg W1 wr2 (· = gh))) (fun kk _ => t.w.length - (intOf kk).toNat)
      case atStart => exact ⟨0, Nat.zero_le _, rfl, Z2, hide (Chg.refl _ _)⟩
      case round =>
        rename World => wq
        obtain ⟨k, hk, rfl, ZK, CK⟩ := hrel
        clear Z2
        have BK := hide (B1.out.trans (CK.out.belowB (B := w.heap.size) (fun k hk => by omega) B1.out.size))
        have v1 := HC1.out wq BK.out
        have CV2 := hide (CV.out.chg CK.out (by show ¬ gc = gh; omega))
        have v3 := CV2.out.cell' (i := 3) rfl
        rw [SWN.out] at v3
        by_cases hlk : k < t.w.length
        · obtain ⟨b1, o1, hwa, hc1, hb1l⟩ := (HTX.out wq BK.out).wi.at hlk
          replace hc1 := hc1 k hlk
          simp only at hwa
          obtain ⟨n, hn⟩ : ∃ n : Nat, t.w.getD k 0 = n := ⟨_, (Int.toNat_of_nonneg (hkw.out (t.w.getD k 0) (by simp [List.getD, hlk])).1).symm⟩
          have hn24 : n < 24 := by have := hkw.out (t.w.getD k 0) (by simp [List.getD, hlk]); omega
          have hb1w : b1 < w.heap.size := by
            have := (HTX.out w (Below.refl _ _)).wi.at hlk
            obtain ⟨b1', o1', hwa', _, hlt'⟩ := this
            simp only at hwa'
            rw [hwa] at hwa'
            simp at hwa'
            omega
          obtain ⟨b2, o2, hsa, hc2, _⟩ := (SW.out.chg CK.out (fun a e => by have := SWB.out a.block (by simp [Sl.blk, e]); show ¬ a.block = gh; omega)).at (k := k) (by rw [GLn.out]; exact hlk)
          obtain ⟨s0, s1⟩ := hc2 k (by rw [GLn.out]; exact hlk)
          have hb2n : ¬ b2 = gh := by have := SWB.out b2 (by simp [Sl.blk, hsa]); omega
          have hset : putTo hv t.w ws (k + 1) = (putTo hv t.w ws k).set n (ws.getD k Slot.none) := by simp only [putTo, hn, Int.toNat_natCast]
          obtain ⟨q0, q1⟩ := slotCells_get (putTo hv t.w ws k) n (by rw [putTo_len, HVL.out]; exact hn24)
          have q0' := ZK.out.cell' q0
          have q1' := ZK.out.cell' q1
          have f0 := ZK.out.frozen (n * 2)
          have f1 := ZK.out.frozen (n * 2 + 1)
          have hgn := (ZK.out.set (n * 2) (.int .i64 (ws.getD k Slot.none).v)).set (n * 2 + 1) (.bool (ws.getD k Slot.none).th)
          rw [slotCells_set (putTo hv t.w ws k) (ws.getD k Slot.none) n (by rw [putTo_len, HVL.out]; exact hn24), ← hset] at hgn
          have HG := hide hgn
          generalize ws.getD k Slot.none = sl at *
          obtain ⟨sv, sth⟩ := sl
          simp only at s0 s1 HG
          rw [hn] at hc1
          rw [hwa] at v1
          rw [hsa] at v3
          have hghl := ZK.out.lt
          have hb1n : ¬ b1 = gh := by omega
          have hbn : ¬ b = gh := by have := lt_of_cell (HC1.out w (Below.refl _ _)); omega
          have KS : Hid (∀ w', Chg wq w' (· = gh) → (w'.cell? ⟨b, o + j * 3 + 1, none⟩ = some (.slice (some ⟨b1, o1, none⟩) t.w.length wc) ∧ w'.cell? ⟨b1, o1 + k, none⟩ = some (.int .i64 n) ∧ w'.cell? ⟨gc, 3, none⟩ = some (.slice (some ⟨b2, o2, none⟩) t.w.length sw.c) ∧ w'.cell? ⟨b2, o2 + k * 2, none⟩ = some (.int .i64 sv) ∧ w'.cell? ⟨b2, o2 + k * 2 + 1, none⟩ = some (.bool sth))) := hide (fun w' hC =>
            ⟨cell_chg hC v1 hbn, cell_chg hC hc1 hb1n, cell_chg hC v3 (by show ¬ gc = gh; omega), cell_chg hC s0 hb2n, cell_chg hC s1 hb2n⟩)
          have hk' : (k : Int) < (t.w.length : Int) := by omega
          have hn' : (n : Int) < 24 := by omega
          clear hwa hsa q0 q1 hset hc2 hgn HT HTX HC1 SW SWB hkw HVL GLn ZK CV CV2 BJ ZJ B1 BC SWN HSU
          go_wp2
          go_region_held (fun w' => w'.cell? ⟨b, o + j * 3 + 1, none⟩ = some (.slice (some ⟨b1, o1, none⟩) t.w.length wc) ∧ w'.cell? ⟨b1, o1 + k, none⟩ = some (.int .i64 n) ∧ w'.cell? ⟨gc, 3, none⟩ = some (.slice (some ⟨b2, o2, none⟩) t.w.length sw.c) ∧ w'.cell? ⟨b2, o2 + k * 2, none⟩ = some (.int .i64 sv) ∧ w'.cell? ⟨b2, o2 + k * 2 + 1, none⟩ = some (.bool sth))
            (first | exact KS.out _ (Chg.refl _ _).drew | exact KS.out _ (Chg.drew (Chg.put (Chg.put (Chg.refl wq (· = gh)) ⟨gh, n * 2, none⟩ _ rfl) ⟨gh, n * 2 + 1, none⟩ _ rfl))) (fail)
          go_wp2
          go_roundw
          case rel => exact ⟨k + 1, by omega, by go_num, HG, hide (CK.out.trans (Chg.drew (Chg.put (Chg.put (Chg.refl wq (· = gh)) ⟨gh, n * 2, none⟩ _ rfl) ⟨gh, n * 2 + 1, none⟩ _ rfl)))⟩
          case measure => simp [intOf]; omega
        · have hkk : k = t.w.length := by omega
          subst hkk
          have hk' : ¬ ((t.w.length : Int) < (t.w.length : Int)) := by omega
          clear HTX HC1 SW SWB hkw HVL GLn CV CV2 BJ ZJ B1 BC SWN hlk v3
          go_wp2
          go_roundw
          case rel => exact ⟨j + 1, by omega, by go_num, hide (by rw [HSU.out]; exact ZK.out), BK⟩
          case measure => simp [intOf]; omega
    · have hjl : j = ts.length := by omega
      subst hjl
      go_wp2
      go_ret
      exact ⟨gh, rfl, ZJ.out, BJ.out⟩

end Go.Proofs.YtlheloogmgmjnaaGreat

namespace Go.Proofs.YtlheloogmgmjnaaGreat
open Go.RowKit

theorem getD_set_other {α : Type} (l : List α) (i k : Nat) (v d : α) (h : i ≠ k) : (l.set i v).getD k d = l.getD k d := by simp [List.getD, List.getElem?_set_ne h]

theorem oneStep_out (x : Ins) (R : List Int) (hv : List Slot) (reg : List Int) (out : List Slot) (k : Nat) (h : (nextSaid x (List.replicate (k + 1) false)).getD k false = false) : (oneStep x R hv reg out).2.getD k Slot.none = out.getD k Slot.none := by
  unfold nextSaid at h
  have key : (x.op = 8 ∨ x.op = 9) → x.a.toNat ≠ k := by
    intro ho e
    rw [if_pos ho, e] at h
    simp [List.getD] at h
  unfold oneStep
  repeat' split
  all_goals first
    | rfl
    | (have := key (by omega); simp [List.getD, List.getElem?_set_ne this])

theorem nextSaid_get (x : Ins) (said : List Bool) (k : Nat) (hk : k < said.length) (h : (nextSaid x said).getD k false = false) : said.getD k false = false ∧ (nextSaid x (List.replicate (k + 1) false)).getD k false = false := by
  unfold nextSaid at *
  by_cases ho : x.op = 8 ∨ x.op = 9
  · rw [if_pos ho] at *
    by_cases e : x.a.toNat = k
    · rw [e] at h; simp [List.getD, hk] at h
    · rw [getD_set_other _ _ _ _ _ e] at h ⊢
      exact ⟨h, by simp [List.getD]⟩
  · rw [if_neg ho] at *
    exact ⟨h, by simp [List.getD]⟩

/-- What is not said is as it was. -/
theorem gst_unsaid (t : Tx) (hv : List Slot) : ∀ (n k : Nat), k < t.w.length → (gst t hv n).said.getD k false = false → (gst t hv n).out.getD k Slot.none = (befOf t hv).getD k Slot.none
  | 0, _, _, _ => rfl
  | n + 1, k, hk, h => by
    obtain ⟨h1, h2⟩ := nextSaid_get ((gst t hv n).ins t) (gst t hv n).said k (by rw [(gst_len t hv n).2.2]; exact hk) h
    rw [← gst_unsaid t hv n k hk h1]
    exact oneStep_out _ _ _ _ _ k h2

theorem goCrs_unsaid (t : Tx) (hv : List Slot) (k : Nat) (hk : k < t.w.length) (h : (goCrs t hv).said.getD k false = false) : (goCrs t hv).ws.getD k Slot.none = (befOf t hv).getD k Slot.none := by
  obtain ⟨n, hn, hr, he | ⟨h1, h2⟩⟩ := goCrs_ends t hv
  · rw [goCrs_end t hv n hr he] at h ⊢
    exact gst_unsaid t hv n k hk h
  · rw [goCrs_abort t hv n hr h1 h2]

/-- No key stands twice. -/
theorem twice_none {xs : List Int} (h : twiceTo xs xs.length = false) {i j : Nat} (hij : i < j) (hj : j < xs.length) : xs.getD i 0 ≠ xs.getD j 0 := by
  intro e
  unfold twiceTo at h
  rw [List.any_eq_false] at h
  have h1 := h j (List.mem_range.2 hj)
  rw [Bool.not_eq_true, List.any_eq_false] at h1
  have hi : i < xs.length := by omega
  have hm : xs.getD i 0 ∈ xs.take j := by
    rw [List.getD, List.getElem?_eq_getElem hi]
    rw [List.mem_take_iff_getElem]
    exact ⟨i, by omega, rfl⟩
  exact h1 _ hm (by simpa using e)

theorem checkN_apart {t : Tx} (h : checkN t = 0) : twiceTo t.w t.w.length = false := by
  unfold checkN at h
  split at h
  · cases h
  · split at h
    · cases h
    · split at h
      · cases h
      · rename_i h4
        simp at h4
        exact h4.2

/-- What the keys have when slots have been laid: a key that is not among them; one that is. -/
theorem putTo_other (hv : List Slot) (ks : List Int) (ws : List Slot) (key : Nat) : ∀ n, (∀ i, i < n → (ks.getD i 0).toNat ≠ key) → (putTo hv ks ws n).getD key Slot.none = hv.getD key Slot.none
  | 0, _ => rfl
  | n + 1, h => by
    have := h n (by omega)
    rw [putTo]
    rw [getD_set_other _ _ _ _ _ this]
    exact putTo_other hv ks ws key n (fun i hi => h i (by omega))

theorem putTo_at (hv : List Slot) (ks : List Int) (ws : List Slot) (key k : Nat) (hkey : key < hv.length) : ∀ n, k < n → (ks.getD k 0).toNat = key → (∀ i, k < i → i < n → (ks.getD i 0).toNat ≠ key) → (putTo hv ks ws n).getD key Slot.none = ws.getD k Slot.none
  | 0, h, _, _ => by omega
  | n + 1, h, hk, ho => by
    rw [putTo]
    by_cases e : k = n
    · subst e
      rw [hk]
      simp [List.getD, putTo_len, hkey]
    · have := ho n (by omega) (by omega)
      rw [getD_set_other _ _ _ _ _ this]
      exact putTo_at hv ks ws key k hkey n (by omega) hk (fun i h1 h2 => ho i h1 (by omega))

/-- What a transaction makes of a key: what it said of it, or what was. -/
theorem putTo_go {t : Tx} (hc : checkN t = 0) {hv : List Slot} (hl : hv.length = 24) (key : Nat) (hkey : key < 24) :
    (putTo hv t.w (goCrs t hv).ws t.w.length).getD key Slot.none =
      (if 0 ≤ firstN (fun k => t.w.getD k 0 == (key : Int)) t.w.length ∧ (goCrs t hv).said.getD (firstN (fun k => t.w.getD k 0 == (key : Int)) t.w.length).toNat false = true
       then (goCrs t hv).ws.getD (firstN (fun k => t.w.getD k 0 == (key : Int)) t.w.length).toNat Slot.none else hv.getD key Slot.none) := by
  have hkw := (checkN_sound t hc).2.2.2.2.1
  by_cases hex : ∃ k, k < t.w.length ∧ t.w.getD k 0 = (key : Int)
  · obtain ⟨k, hk, hke⟩ := hex
    have huniq : ∀ j, j < t.w.length → j ≠ k → t.w.getD j 0 ≠ (key : Int) := by
      intro j hj hjk e
      rcases Nat.lt_or_gt_of_ne hjk with h | h
      · exact twice_none (checkN_apart hc) h hk (e.trans hke.symm)
      · exact twice_none (checkN_apart hc) h hj (hke.trans e.symm)
    have hf : firstN (fun k => t.w.getD k 0 == (key : Int)) t.w.length = k := firstN_at hk (by simpa using hke) (fun j hj => by simpa using huniq j (by omega) (by omega))
    rw [hf, putTo_at hv t.w (goCrs t hv).ws key k (by omega) t.w.length hk (by rw [hke]; simp) (fun i h1 h2 e => by
      have h3 := hkw (t.w.getD i 0) (by rw [List.getD, List.getElem?_eq_getElem h2]; exact List.getElem_mem h2)
      exact huniq i h2 (by omega) (by omega))]
    simp only [Int.toNat_natCast]
    by_cases hs : (goCrs t hv).said.getD k false = true
    · rw [if_pos ⟨by omega, hs⟩]
    · rw [if_neg (fun h => hs h.2)]
      rw [goCrs_unsaid t hv k hk (by simpa using hs)]
      unfold befOf
      have : (t.w.map fun k => hv.getD k.toNat Slot.none).getD k Slot.none = hv.getD (t.w.getD k 0).toNat Slot.none := by simp [List.getD, hk]
      rw [this, hke]
      simp
  · have hno : ∀ j, j < t.w.length → t.w.getD j 0 ≠ (key : Int) := fun j hj e => hex ⟨j, hj, e⟩
    have hf : firstN (fun k => t.w.getD k 0 == (key : Int)) t.w.length = -1 := firstN_none (fun j hj => by simpa using hno j hj)
    rw [hf, if_neg (by omega), putTo_other hv t.w (goCrs t hv).ws key t.w.length (fun i hi e => by
      have h3 := hkw (t.w.getD i 0) (by rw [List.getD, List.getElem?_eq_getElem hi]; exact List.getElem_mem hi)
      exact hno i hi (by omega))]

end Go.Proofs.YtlheloogmgmjnaaGreat

namespace Go.Proofs.YtlheloogmgmjnaaGreat
open Go.RowKit

/-- What a key has behind the first n: what the greatest of them that has said something of it has said. -/
def valueIn (l : List Tsk) (key : Nat) : Nat → Slot
  | 0 => Slot.none
  | i + 1 =>
    match l[i]? with
    | none => Slot.none
    | some t =>
      if 0 ≤ firstN (fun k => t.tx.w.getD k 0 == (key : Int)) t.tx.w.length ∧ t.crs.said.getD (firstN (fun k => t.tx.w.getD k 0 == (key : Int)) t.tx.w.length).toNat false = true
      then t.crs.ws.getD (firstN (fun k => t.tx.w.getD k 0 == (key : Int)) t.tx.w.length).toNat Slot.none else valueIn l key i

/-- Each course is that of the serial outcome. -/
def SerialCrs (l : List Tsk) : Prop := ∀ i (hi : i < l.length), (l[i]).crs = goCrs (l[i]).tx (behindTo (l.map (·.tx)) i)

theorem behindTo_value (l : List Tsk) (hs : SerialCrs l) (hc : ∀ t ∈ l, checkN t.tx = 0) (key : Nat) (hkey : key < 24) : ∀ n, n ≤ l.length → (behindTo (l.map (·.tx)) n).getD key Slot.none = valueIn l key n
  | 0, _ => by
    show (List.replicate 24 Slot.none).getD key Slot.none = Slot.none
    rw [List.getD, List.getElem?_replicate]
    split <;> rfl
  | n + 1, hn => by
    have hl : n < l.length := by omega
    have ih := behindTo_value l hs hc key hkey n (by omega)
    have e : (l.map (·.tx)).getD n Tx.nil = (l[n]).tx := by simp [List.getD, hl]
    rw [behindTo, e, putTo_go (hc _ (List.getElem_mem hl)) (behindTo_len _ _) key hkey, ← hs n hl, ih]
    simp only [valueIn, List.getElem?_eq_getElem hl]

theorem behindTo_take (ts : List Tx) : ∀ (n m : Nat), n ≤ m → behindTo (ts.take m) n = behindTo ts n
  | 0, _, _ => rfl
  | n + 1, m, h => by
    have ih := behindTo_take ts n m (by omega)
    have e : (ts.take m).getD n Tx.nil = ts.getD n Tx.nil := by simp [List.getD, show n < m by omega]
    rw [behindTo, behindTo, ih, e]

theorem behindTo_map_take (l : List Tsk) (m : Nat) : behindTo ((l.take m).map (·.tx)) m = behindTo (l.map (·.tx)) m := by
  rw [List.map_take]; exact behindTo_take _ m m (Nat.le_refl _)

/-- As long as nothing has gone: which of its keys it is. -/
theorem wr_plain {t : Tsk} (hg : t.gone = List.replicate t.tx.w.length false) (key : Nat) : t.wr (key : Int) = firstN (fun k => t.tx.w.getD k 0 == (key : Int)) t.tx.w.length := by
  unfold Tsk.wr
  rw [hg]
  have : (fun k => t.tx.w.getD k 0 == (key : Int) && !(List.replicate t.tx.w.length false).getD k false) = (fun k => t.tx.w.getD k 0 == (key : Int)) := by
    funext k
    have : (List.replicate t.tx.w.length false).getD k false = false := by
      simp only [List.getD, List.getElem?_replicate]
      split <;> rfl
    rw [this]; simp
  rw [this]

/-- One more comes in: the courses stay those of the serial outcome. -/
theorem serial_add {l : List Tsk} (hs : SerialCrs l) {T : Tsk} (hT : T.crs = goCrs T.tx (behindTo (l.map (·.tx)) l.length)) : SerialCrs (l ++ [T]) := by
  have hb : ∀ i, i ≤ l.length → behindTo ((l ++ [T]).map (·.tx)) i = behindTo (l.map (·.tx)) i := by
    intro i hi
    have e : (l.map (·.tx)) = (((l ++ [T]).map (·.tx))).take l.length := by simp
    rw [e]
    exact (behindTo_take _ i l.length hi).symm
  intro i hi
  rw [hb i (by simp at hi; omega)]
  by_cases h : i < l.length
  · rw [List.getElem_append_left h]; exact hs i h
  · have e : i = l.length := by simp at hi; omega
    subst e
    simp only [List.getElem_append_right (Nat.le_refl _), Nat.sub_self, List.getElem_cons_zero]
    exact hT

theorem serial_end {l : List Tsk} (hs : SerialCrs l) (m : Nat) : SerialCrs (l.modify m Tsk.end) := by
  have e : (l.modify m Tsk.end).map (·.tx) = l.map (·.tx) := by
    apply List.ext_getElem?
    intro i
    simp only [List.getElem?_map, List.getElem?_modify]
    split <;> (rcases l[i]? with _ | t <;> rfl)
  intro i hi
  rw [e]
  have hl : i < l.length := by simpa using hi
  have := hs i hl
  rw [List.getElem_modify]
  split
  · exact this
  · exact this

end Go.Proofs.YtlheloogmgmjnaaGreat

namespace Go.Proofs.YtlheloogmgmjnaaGreat
open Go.RowKit

set_option maxHeartbeats 2000000 in
set_option maxRecDepth 100000 in
theorem rBehind_nil (w : World) :
    Calls Tryz.prog 119 #[.slice none 0 0, .int .i64 0] w fun e w' => ∃ g, e = .returned (.slice (some ⟨g, 0, none⟩) 24 24) ∧ RowAt w' g 172 (slotCells (behindTo [] 0)) ∧ Below w.heap.size w w' := by
  have hms : ∀ wx : World, (Instr.makeSlice 40 (.int .i64 24) (.int .i64 24)).run Tryz.prog wx = .ok (.slice (some ⟨wx.heap.size, 0, none⟩) 24 24) (wx.alloc (.cells zeroSlots.toArray 172)) := fun wx => by kernel_rfl
  have Z0 := hide (rowAt_alloc w zeroSlots 172)
  generalize hZ : zeroSlots.toArray = ZS at *
  clear hZ
  go_enter Tryz.func119, Tryz.ntmps119
  go_wp2
  refine wp_loop_rounds 1 ?_
  rw [rounds_succ]
  go_wp2
  go_ret
  exact ⟨_, rfl, Z0.out, below_alloc1 _ _⟩

def TH.row (h : TH) : List Value := [.slice h.r.a h.r.n h.r.c, .slice h.w.a h.w.n h.w.c, .slice h.c.a h.c.n h.c.c]
theorem thr_get (l : List TH) : ∀ i, i < l.length → (l.flatMap TH.row)[i * 3]? = some (.slice (l.getD i TH.nil).r.a (l.getD i TH.nil).r.n (l.getD i TH.nil).r.c) ∧ (l.flatMap TH.row)[i * 3 + 1]? = some (.slice (l.getD i TH.nil).w.a (l.getD i TH.nil).w.n (l.getD i TH.nil).w.c) ∧ (l.flatMap TH.row)[i * 3 + 2]? = some (.slice (l.getD i TH.nil).c.a (l.getD i TH.nil).c.n (l.getD i TH.nil).c.c) := by
  induction l with
  | nil => intro i hi; simp at hi
  | cons x r ih =>
    intro i hi
    cases i with
    | zero => simp [TH.row]
    | succ i =>
      have := ih i (by simpa using hi)
      rw [show (i + 1) * 3 = i * 3 + 3 by omega, show i * 3 + 3 + 1 = i * 3 + 1 + 3 by omega, show i * 3 + 3 + 2 = i * 3 + 2 + 3 by omega]
      simpa [TH.row, List.getD] using this

theorem txsAt_of {w : World} {R : RM} (h : RefAt w R) {s : Sl} {g n : Nat} (ha : s.a = some ⟨g, 0, none⟩) (hn : n ≤ R.tasks.length) (ho : Own w 33 3 s (((R.tasks.take n).map (·.h)).flatMap TH.row)) :
    TxsAt w g 0 ((R.tasks.take n).map (·.h)) ((R.tasks.take n).map (·.tx)) := by
  have hl : ((R.tasks.take n).map (·.h)).length = n := by simp; omega
  have hl2 : ((R.tasks.take n).map (·.tx)).length = n := by simp; omega
  have hc : ∀ i v, (((R.tasks.take n).map (·.h)).flatMap TH.row)[i]? = some v → w.cell? ⟨g, i, none⟩ = some v := by
    intro i v hv
    obtain ⟨g', hg', hc⟩ := ho.cell hv
    rw [ha] at hg'; simp at hg'; subst hg'; exact hc
  have hm : ∀ i, i < n → ∃ t ∈ R.tasks, ((R.tasks.take n).map (·.h)).getD i TH.nil = t.h ∧ ((R.tasks.take n).map (·.tx)).getD i Tx.nil = t.tx := by
    intro i hi
    have h1 : i < (R.tasks.take n).length := by simp; omega
    refine ⟨(R.tasks.take n)[i], List.mem_of_mem_take (List.getElem_mem h1), ?_, ?_⟩
    · simp [List.getD, List.getElem?_map, hi]
      rw [List.getElem?_eq_getElem (by omega)]; rfl
    · simp [List.getD, List.getElem?_map, hi]
      rw [List.getElem?_eq_getElem (by omega)]; rfl
  refine ⟨by rw [hl, hl2], ?_, ?_, ?_, ?_, ?_⟩
  · intro i hi; rw [Nat.zero_add]; exact hc _ _ (thr_get _ i (by omega)).1
  · intro i hi; rw [Nat.zero_add]; exact hc _ _ (thr_get _ i (by omega)).2.1
  · intro i hi; rw [Nat.zero_add]; exact hc _ _ (thr_get _ i (by omega)).2.2
  · intro i hi
    obtain ⟨t, ht, e1, e2⟩ := hm i (by omega)
    rw [e1, e2]; exact (h.tsk t ht).tx
  · intro i hi
    obtain ⟨t, ht, e1, e2⟩ := hm i (by omega)
    rw [e2]; exact (h.tsk t ht).chk

end Go.Proofs.YtlheloogmgmjnaaGreat

namespace Go.Proofs.YtlheloogmgmjnaaGreat
open Go.RowKit

/-- Why a value can't be told. -/
def RM.unread (R : RM) (key n : Int) : Int :=
  if key < 0 ∨ 24 ≤ key then 3 else if n < 0 ∨ (R.tasks.length : Int) < n then 8 else if (R.done : Int) < n then 9 else if n < (R.mark : Int) then 10 else 0

theorem RM.done_le (R : RM) : R.done ≤ R.tasks.length := by unfold RM.done; exact (List.takeWhile_sublist _).length_le

set_option maxHeartbeats 2000000 in
set_option maxRecDepth 100000 in
theorem rRead_no (R : RM) (w : World) (h : RefAt w R) (key n : Int) (hu : R.unread key n ≠ 0) :
    Calls Tryz.prog 83 #[.pointer (some ⟨R.b, 0, none⟩), .int .i64 key, .int .i64 n] w fun e w' => e = .returned (.tuple #[.int .i64 0, .bool false, .int .i64 (R.unread key n)]) ∧ w' = w := by
  have c3 := h.row.cell' (i := 3) (v := .slice R.tkS.a R.tkS.n R.tkS.c) rfl
  rw [h.tkn] at c3
  have DN := hide (rdone_any R w h)
  have MK := hide (rmark_any R w h)
  have ht := h.txns
  clear h
  by_cases h1 : key < 0 ∨ 24 ≤ key
  · have e : R.unread key n = 3 := by unfold RM.unread; rw [if_pos h1]
    rw [e]
    clear e hu DN MK
    by_cases h2 : key < 0
    · go_enter Tryz.func83, Tryz.ntmps83
      go_wp2
      exact bodyPost_ret (v := .tuple #[.int .i64 0, .bool false, .int .i64 3]) (by simp [results, Tryz.results83, go_sem]) rfl ⟨rfl, rfl⟩
    · have h3 : 24 ≤ key := by omega
      have d2 : decide (key < 0) = false := by simp; omega
      go_enter Tryz.func83, Tryz.ntmps83
      go_wp2
      exact bodyPost_ret (v := .tuple #[.int .i64 0, .bool false, .int .i64 3]) (by simp [results, Tryz.results83, go_sem]) rfl ⟨rfl, rfl⟩
  · have k1 : ¬ key < 0 := by omega
    have k2 : ¬ 24 ≤ key := by omega
    have d1 : decide (key < 0) = false := by simp; omega
    have d2 : decide (24 ≤ key) = false := by simp; omega
    by_cases h2 : n < 0 ∨ (R.tasks.length : Int) < n
    · have e : R.unread key n = 8 := by unfold RM.unread; rw [if_neg h1, if_pos h2]
      rw [e]
      clear e hu DN MK
      by_cases h3 : n < 0
      · go_enter Tryz.func83, Tryz.ntmps83
        go_wp2
        exact bodyPost_ret (v := .tuple #[.int .i64 0, .bool false, .int .i64 8]) (by simp [results, Tryz.results83, go_sem]) rfl ⟨rfl, rfl⟩
      · have h4 : (R.tasks.length : Int) < n := by omega
        have d3 : decide (n < 0) = false := by simp; omega
        go_enter Tryz.func83, Tryz.ntmps83
        go_wp2
        exact bodyPost_ret (v := .tuple #[.int .i64 0, .bool false, .int .i64 8]) (by simp [results, Tryz.results83, go_sem]) rfl ⟨rfl, rfl⟩
    · have n1 : ¬ n < 0 := by omega
      have n2 : ¬ (R.tasks.length : Int) < n := by omega
      have d3 : decide (n < 0) = false := by simp; omega
      have d4 : decide ((R.tasks.length : Int) < n) = false := by simp; omega
      by_cases h3 : (R.done : Int) < n
      · have e : R.unread key n = 9 := by unfold RM.unread; rw [if_neg h1, if_neg h2, if_pos h3]
        rw [e]
        clear e hu MK
        generalize R.done = D at *
        go_enter Tryz.func83, Tryz.ntmps83
        go_wp2_with (go_at_call 76; refine DN.out.mono ?_; rintro e w' ⟨rfl, rfl⟩)
        exact bodyPost_ret (v := .tuple #[.int .i64 0, .bool false, .int .i64 9]) (by simp [results, Tryz.results83, go_sem]) rfl ⟨rfl, rfl⟩
      · by_cases h4 : n < (R.mark : Int)
        · have e : R.unread key n = 10 := by unfold RM.unread; rw [if_neg h1, if_neg h2, if_neg h3, if_pos h4]
          rw [e]
          clear e hu
          generalize R.done = D at *
          generalize R.mark = K at *
          go_enter Tryz.func83, Tryz.ntmps83
          go_wp2_with (first | (go_at_call 76; refine DN.out.mono ?_; rintro e w' ⟨rfl, rfl⟩) | (go_at_call 77; refine MK.out.mono ?_; rintro e w' ⟨rfl, rfl⟩))
          exact bodyPost_ret (v := .tuple #[.int .i64 0, .bool false, .int .i64 10]) (by simp [results, Tryz.results83, go_sem]) rfl ⟨rfl, rfl⟩
        · exact absurd (by unfold RM.unread; rw [if_neg h1, if_neg h2, if_neg h3, if_neg h4]) hu

theorem Tryz.info33 : (Tryz.prog.info? 33).map (fun i => (i.zero, i.size, i.bytes)) = some (some (.agg #[.slice none 0 0, .slice none 0 0, .slice none 0 0]), 3, 72) := by kernel_rfl
theorem Tryz.underlying48 : Tryz.prog.underlying 48 = some (.slice 33) := by kernel_rfl

end Go.Proofs.YtlheloogmgmjnaaGreat

namespace Go.Proofs.YtlheloogmgmjnaaGreat
open Go.RowKit

theorem take_h_succ (R : RM) {i : Nat} (hi : i < R.tasks.length) : ((R.tasks.take (i + 1)).map (·.h)).flatMap TH.row = ((R.tasks.take i).map (·.h)).flatMap TH.row ++ (R.tasks[i]).h.row := by
  rw [List.take_succ_eq_append_getElem hi, List.map_append, List.flatMap_append]
  simp only [List.map_cons, List.map_nil, List.flatMap_cons, List.flatMap_nil, List.append_nil]

theorem thRow_one (h : TH) : ∀ v ∈ h.row, v.oneCell' = true := by
  intro v hv
  simp only [TH.row, List.mem_cons, List.not_mem_nil, or_false] at hv
  rcases hv with h | h | h <;> subst h <;> rfl

/-- The list of the first j transactions. -/
structure Built (R : RM) (w wr : World) (j : Nat) (s : Sl) : Prop where
  own : Own wr 33 3 s (((R.tasks.take j).map (·.h)).flatMap TH.row)
  n : s.n = j
  below : Below w.heap.size w wr
  new : ∀ k ∈ s.blk, w.heap.size ≤ k
  nil : j = 0 → s = Sl.nil

set_option maxHeartbeats 4000000 in
set_option maxRecDepth 100000 in
theorem rRead_ok (R : RM) (w : World) (h : RefAt w R) (k m : Nat) (hk : k < 24) (hm : m ≤ R.done) (hmk : R.mark ≤ m) :
    Calls Tryz.prog 83 #[.pointer (some ⟨R.b, 0, none⟩), .int .i64 k, .int .i64 m] w fun e w' => e = .returned (.tuple #[.int .i64 ((behindTo ((R.tasks.take m).map (·.tx)) m).getD k Slot.none).v, .bool ((behindTo ((R.tasks.take m).map (·.tx)) m).getD k Slot.none).th, .int .i64 0]) ∧ Below w.heap.size w w' := by
  obtain ⟨i0, hi, hz0, hz1, hz2⟩ := info_parts Tryz.info33
  have c3 := h.row.cell' (i := 3) (v := .slice R.tkS.a R.tkS.n R.tkS.c) rfl
  rw [h.tkn] at c3
  have DN := hide (rdone_any R w h)
  have MK := hide (rmark_any R w h)
  have H := hide (fun wx (hb : Below w.heap.size w wx) => h.below hb)
  have ht := h.txns
  have hdl := R.done_le
  have hml : m ≤ R.tasks.length := by omega
  clear h
  have d1 : decide ((k : Int) < 0) = false := by simp
  have d2 : decide ((24 : Int) ≤ (k : Int)) = false := by simp; omega
  have d3 : decide ((m : Int) < 0) = false := by simp
  have d4 : decide ((R.tasks.length : Int) < (m : Int)) = false := by simp; omega
  have n3 : ¬ ((R.done : Int) < (m : Int)) := by omega
  have n4 : ¬ ((m : Int) < (R.mark : Int)) := by omega
  generalize R.done = D at *
  generalize R.mark = K at *
  go_enter Tryz.func83, Tryz.ntmps83
  go_wp2_with (first | (go_at_call 76; refine DN.out.mono ?_; rintro e w' ⟨rfl, hw⟩; have hw2 := hw.symm; subst hw2; clear hw) | (go_at_call 77; refine MK.out.mono ?_; rintro e w' ⟨rfl, hw⟩; have hw2 := hw.symm; subst hw2; clear hw))
  clear DN MK
  go_loopw [11, 12] (fun l i wr => ∃ j : Nat, j ≤ m ∧ i = .int .i64 j ∧ ∃ s : Sl, l = s.val ∧ Hid (Built R w wr j s)) (fun _ i _ => m - (intOf i).toNat)
  case atStart => exact ⟨0, Nat.zero_le _, rfl, Sl.nil, rfl, hide ⟨by simpa using Own.nil _ _ _, rfl, Below.refl _ _, by simp [Sl.nil, Sl.blk], fun _ => rfl⟩⟩
  case round =>
    obtain ⟨j, hj, rfl, s, rfl, HB⟩ := hrel
    have OJ := hide HB.out.own; have SJ := hide HB.out.n; have BJ := hide HB.out.below; have LJ := hide HB.out.new; have NJ := hide HB.out.nil
    clear HB
    simp only [Sl.val]
    by_cases hlt : j < m
    · have hjl : j < R.tasks.length := by omega
      obtain ⟨g, hg, hgl, hc⟩ := (H.out wr BJ.out).task hjl
      have v3 := (H.out wr BJ.out).row.cell' (i := 3) (v := .slice R.tkS.a R.tkS.n R.tkS.c) rfl
      rw [(H.out wr BJ.out).tkn, hg] at v3
      have e0 := hc 0 (.slice (R.tasks[j]).h.r.a (R.tasks[j]).h.r.n (R.tasks[j]).h.r.c) rfl
      have e1 := hc 1 (.slice (R.tasks[j]).h.w.a (R.tasks[j]).h.w.n (R.tasks[j]).h.w.c) rfl
      have e2 := hc 2 (.slice (R.tasks[j]).h.c.a (R.tasks[j]).h.c.n (R.tasks[j]).h.c.c) rfl
      rw [Nat.add_zero] at e0
      have HSU := hide (take_h_succ R hjl)
      have P1 := hide (rowAt_alloc wr (R.tasks[j]).h.row 33)
      have O1 := hide (OJ.out.below (below_alloc1 wr (.cells (R.tasks[j]).h.row.toArray 33)))
      have B1 := hide (below_on BJ.out (below_alloc1 wr (.cells (R.tasks[j]).h.row.toArray 33)))
      have MM := hide (show s.n + 1 ≤ maxLen by rw [SJ.out]; unfold maxLen; omega)
      have QQ := hide (show (s.n + 1) * 72 ≤ 140737488355328 by rw [SJ.out]; omega)
      have HT1 := hide (thRow_one (R.tasks[j]).h)
      generalize (R.tasks[j]).h = th at *
      obtain ⟨⟨ra, rn, rc⟩, ⟨wa, wn, wc⟩, ⟨ca, cn, cc⟩⟩ := th
      simp only at e0 e1 e2
      have hjl' : (j : Int) < (R.tasks.length : Int) := by omega
      have hlt' : (j : Int) < (m : Int) := by omega
      clear hc hg c3 OJ
      go_wp2_with (first
        | (at_builtin; refine wpList_append_sl rfl (.tmp 46) (.tmp 55) 48 rfl 33 i0 (.agg #[.slice none 0 0, .slice none 0 0, .slice none 0 0]) 3 72 Tryz.underlying48 hi hz0 hz1 hz2 rfl (by decide) s (((R.tasks.take j).map (fun x : Tsk => x.h)).flatMap TH.row) rfl O1.out (some ⟨wr.heap.size, 0, none⟩) 1 1 (TH.row ⟨⟨ra, rn, rc⟩, ⟨wa, wn, wc⟩, ⟨ca, cn, cc⟩⟩) rfl rfl (by simp) (fun ad had j u hu => by cases had; rw [addr_add, Nat.zero_add]; exact P1.out.cell' hu) HT1.out MM.out QQ.out ?_; intro s1 w1 ow1 sn1 ch1 bl1; have OW := hide ow1; have SN := hide sn1; have CH := hide ch1; have BL := hide bl1; clear ow1 sn1 ch1 bl1))
      go_roundw
      case rel => exact ⟨j + 1, by omega, by go_num, s1, by first | rfl | exact ⟨rfl, rfl, rfl⟩, hide ⟨by rw [HSU.out]; exact OW.out, by rw [SN.out, SJ.out], B1.out.trans (CH.out.belowB (fun k hk => LJ.out k hk) B1.out.size), fun k hk => (BL.out k hk).elim (LJ.out k) (fun h => by rw [h]; exact B1.out.size), fun h => by omega⟩⟩
      case measure => simp [intOf]; omega
    · have hjm : j = m := by omega
      subst hjm
      have BH : Hid (∀ wx, wx = wr → Calls Tryz.prog 119 #[.slice s.a s.n s.c, .int .i64 j] wx fun e w' => ∃ g, e = .returned (.slice (some ⟨g, 0, none⟩) 24 24) ∧ RowAt w' g 172 (slotCells (behindTo ((R.tasks.take j).map (·.tx)) j)) ∧ Below wr.heap.size wr w') := hide (fun wx hwx => by
        subst hwx
        have hl2 : ((R.tasks.take j).map (·.tx)).length = j := by simp; omega
        by_cases hj0 : j = 0
        · have hs := NJ.out hj0
          subst hj0
          rw [hs]
          exact rBehind_nil _
        · rcases OJ.out.row with ⟨hn, _⟩ | ⟨g, _, hg, _⟩
          · exact absurd (by rw [← SJ.out, hn]; rfl) hj0
          · rw [hg, SJ.out]
            have := rBehind_any g 0 s.c ((R.tasks.take j).map (·.h)) ((R.tasks.take j).map (·.tx)) _ (txsAt_of (H.out _ BJ.out) hg hml OJ.out) (by omega)
            rw [hl2] at this
            exact this)
      have hBL := hide (behindTo_len ((R.tasks.take j).map (·.tx)) j)
      obtain ⟨hv, hhv⟩ : ∃ hv, hv = behindTo ((R.tasks.take j).map (·.tx)) j := ⟨_, rfl⟩
      rw [← hhv] at BH hBL
      have HHV := hide hhv
      clear OJ NJ LJ c3 hhv
      go_wp2_with fail
      refine (BH.out _ rfl).mono ?_
      rintro e w2 ⟨g, rfl, hr, hb2⟩
      have B2 := hide (below_on BJ.out hb2)
      obtain ⟨q0, q1⟩ := slotCells_get hv k (by rw [hBL.out]; exact hk)
      have u0 := hr.cell' q0
      have u1 := hr.cell' q1
      clear hr hb2 q0 q1 BH
      obtain ⟨sl, hsl⟩ : ∃ sl, sl = hv.getD k Slot.none := ⟨_, rfl⟩
      rw [← hsl] at u0 u1
      have HSL := hide hsl
      clear hsl
      have hk' : (k : Int) < 24 := by omega
      go_wp2
      go_quiet (fail)
      go_wp2
      exact bodyPost_ret (v := .tuple #[.int .i64 sl.v, .bool sl.th, .int .i64 0]) (by simp [results, Tryz.results83, go_sem]) rfl ⟨by rw [HSL.out, HHV.out], below_drewN B2.out _⟩

end Go.Proofs.YtlheloogmgmjnaaGreat
