import Derived.Test.YtlheloogmgmjnaaGreatOneB
import Derived.Test.YtlheloogmgmjnaaGreatRefMem
namespace Go.Proofs.YtlheloogmgmjnaaGreat
open Go.RowKit

theorem bel_iff {n t : Int} : bel n t = true ↔ 0 ≤ n ∧ n < t := by simp [bel]

theorem soundB_cases {x : Ins} {nr nw : Int} (h : soundB x nr nw = true) : 1 ≤ x.op ∧ x.op ≤ 11 ∧
    (x.op ≤ 7 ∨ x.op = 10 → 0 ≤ x.a ∧ x.a < 6) ∧ ((2 ≤ x.op ∧ x.op ≤ 5) ∨ x.op = 8 → 0 ≤ x.b ∧ x.b < 6) ∧ ((2 ≤ x.op ∧ x.op ≤ 5) → 0 ≤ x.c ∧ x.c < 6) ∧
    (x.op = 6 ∨ x.op = 7 → 0 ≤ x.b ∧ x.b < nr) ∧ (x.op = 8 ∨ x.op = 9 → 0 ≤ x.a ∧ x.a < nw) ∧ (x.op = 10 → 1 ≤ x.b ∧ x.b ≤ 30) := by
  obtain ⟨op, a, b, c⟩ := x
  simp only [soundB] at h ⊢
  split at h
  · simp [bel] at h; omega
  split at h
  · simp [bel] at h; omega
  split at h
  · simp [bel] at h; omega
  split at h
  · simp [bel] at h; omega
  split at h
  · simp [bel] at h; omega
  split at h
  · simp [bel] at h; omega
  split at h
  · simp at h; omega
  · cases h

set_option maxHeartbeats 1000000 in
theorem one_any (x : Ins) (h : TH) (t : Tx) (hv : List Slot) (ha : Option Addr) (hc gr go oc : Nat) (reg : List Int) (out : List Slot) (w : World) (hs : soundB x t.r.length t.w.length = true) (hl : reg.length = 6) (ho6 : out.length = t.w.length)
    (hr : RowAt w gr 3 (ints reg)) (ho : RowAt w go 172 (slotCells out)) (hne : gr ≠ go) (hx : TxAt w h t) (hk : ∀ n ∈ t.r, 0 ≤ n ∧ n < 24) (hV : SlotsAt w ha hv) (hVl : hv.length = 24) :
    Calls Tryz.prog 156 #[x.val, .agg h.cells, .slice ha 24 hc, .slice (some ⟨gr, 0, none⟩) 6 6, .slice (some ⟨go, 0, none⟩) out.length oc] w fun e w' =>
      e = .returned (.tuple #[]) ∧ RowAt w' gr 3 (ints (oneStep x t.r hv reg out).1) ∧ RowAt w' go 172 (slotCells (oneStep x t.r hv reg out).2) ∧ Chg w w' (fun k => k = gr ∨ k = go) := by
  obtain ⟨h1, h11, hA, hB, hC, hL, hS, _⟩ := soundB_cases hs
  obtain ⟨⟨ra, rn, rc⟩, ⟨wa, wn, wc⟩, ⟨ca, cn, cc⟩⟩ := h
  obtain ⟨op, a, b, c⟩ := x
  simp only at h1 h11 hA hB hC hL hS
  have fin : ∀ {e : Ending} {w' : World} {reg' : List Int}, (e = .returned (.tuple #[]) ∧ RowAt w' gr 3 (ints reg') ∧ Chg w w' (· = gr)) →
      e = .returned (.tuple #[]) ∧ RowAt w' gr 3 (ints reg') ∧ RowAt w' go 172 (slotCells out) ∧ Chg w w' (fun k => k = gr ∨ k = go) :=
    fun ⟨a, b, c⟩ => ⟨a, b, ho.chg c (fun e => hne e.symm), c.mono (fun _ _ h => Or.inl h)⟩
  have fin2 : ∀ {e : Ending} {w' : World} {out' : List Slot}, (e = .returned (.tuple #[]) ∧ RowAt w' go 172 (slotCells out') ∧ Chg w w' (· = go)) →
      e = .returned (.tuple #[]) ∧ RowAt w' gr 3 (ints reg) ∧ RowAt w' go 172 (slotCells out') ∧ Chg w w' (fun k => k = gr ∨ k = go) :=
    fun ⟨a, b, c⟩ => ⟨a, hr.chg c hne, b, c.mono (fun _ _ h => Or.inr h)⟩
  have nat : ∀ {z : Int}, 0 ≤ z → ∃ n : Nat, z = n := fun h => ⟨_, (Int.toNat_of_nonneg h).symm⟩
  have hcase : op = 1 ∨ op = 2 ∨ op = 3 ∨ op = 4 ∨ op = 5 ∨ op = 6 ∨ op = 7 ∨ op = 8 ∨ op = 9 ∨ 9 < op := by omega
  rcases hcase with rfl | rfl | rfl | rfl | rfl | rfl | rfl | rfl | rfl | h9
  · obtain ⟨a, rfl⟩ := nat (hA (by omega)).1
    exact (one_1 a b c ra wa ca ha _ rn rc wn wc cn cc 24 hc _ oc gr reg w hl hr (by have := hA (by omega); omega)).mono fun e w' h => fin h
  · obtain ⟨a, rfl⟩ := nat (hA (by omega)).1
    obtain ⟨b, rfl⟩ := nat (hB (by omega)).1
    obtain ⟨c, rfl⟩ := nat (hC (by omega)).1
    exact (one_2 a b c ra wa ca ha _ rn rc wn wc cn cc 24 hc _ oc gr reg w hl hr (by have := hA (by omega); omega) (by have := hB (by omega); omega) (by have := hC (by omega); omega)).mono fun e w' h => fin h
  · obtain ⟨a, rfl⟩ := nat (hA (by omega)).1
    obtain ⟨b, rfl⟩ := nat (hB (by omega)).1
    obtain ⟨c, rfl⟩ := nat (hC (by omega)).1
    exact (one_3 a b c ra wa ca ha _ rn rc wn wc cn cc 24 hc _ oc gr reg w hl hr (by have := hA (by omega); omega) (by have := hB (by omega); omega) (by have := hC (by omega); omega)).mono fun e w' h => fin h
  · obtain ⟨a, rfl⟩ := nat (hA (by omega)).1
    obtain ⟨b, rfl⟩ := nat (hB (by omega)).1
    obtain ⟨c, rfl⟩ := nat (hC (by omega)).1
    exact (one_4 a b c ra wa ca ha _ rn rc wn wc cn cc 24 hc _ oc gr reg w hl hr (by have := hA (by omega); omega) (by have := hB (by omega); omega) (by have := hC (by omega); omega)).mono fun e w' h => fin h
  · obtain ⟨a, rfl⟩ := nat (hA (by omega)).1
    obtain ⟨b, rfl⟩ := nat (hB (by omega)).1
    obtain ⟨c, rfl⟩ := nat (hC (by omega)).1
    exact (one_5 a b c ra wa ca ha _ rn rc wn wc cn cc 24 hc _ oc gr reg w hl hr (by have := hA (by omega); omega) (by have := hB (by omega); omega) (by have := hC (by omega); omega)).mono fun e w' h => fin h
  · obtain ⟨a, rfl⟩ := nat (hA (by omega)).1
    obtain ⟨b, rfl⟩ := nat (hL (by omega)).1
    have hb : b < t.r.length := by have := hL (by omega); omega
    obtain ⟨k, hkk⟩ := nat (hk (t.r.getD b 0) (by simp [List.getD, hb])).1
    have hk24 : k < 24 := by have := hk (t.r.getD b 0) (by simp [List.getD, hb]); omega
    have e : oneStep ⟨6, a, b, c⟩ t.r hv reg out = (reg.set a (hv.getD k Slot.none).v, out) := by
      have e0 : oneStep ⟨6, a, b, c⟩ t.r hv reg out = (reg.set a (hv.getD (t.r.getD b 0).toNat Slot.none).v, out) := rfl
      rw [e0, hkk]; rfl
    rw [e]
    exact (one_6 a b c ra wa ca ha _ rn rc wn wc cn cc 24 hc _ oc gr reg w hl hr (by have := hA (by omega); omega) t.r hv k hx.ri hx.rl.symm hb hkk hV hVl (by omega)).mono fun e w' h => fin h
  · obtain ⟨a, rfl⟩ := nat (hA (by omega)).1
    obtain ⟨b, rfl⟩ := nat (hL (by omega)).1
    have hb : b < t.r.length := by have := hL (by omega); omega
    obtain ⟨k, hkk⟩ := nat (hk (t.r.getD b 0) (by simp [List.getD, hb])).1
    have hk24 : k < 24 := by have := hk (t.r.getD b 0) (by simp [List.getD, hb]); omega
    have e : oneStep ⟨7, a, b, c⟩ t.r hv reg out = (reg.set a (if (hv.getD k Slot.none).th then 1 else 0), out) := by
      have e0 : oneStep ⟨7, a, b, c⟩ t.r hv reg out = (reg.set a (if (hv.getD (t.r.getD b 0).toNat Slot.none).th then 1 else 0), out) := rfl
      rw [e0, hkk]; rfl
    rw [e]
    exact (one_7 a b c ra wa ca ha _ rn rc wn wc cn cc 24 hc _ oc gr reg w hl hr (by have := hA (by omega); omega) t.r hv k hx.ri hx.rl.symm hb hkk hV hVl (by omega)).mono fun e w' h => fin h
  · obtain ⟨a, rfl⟩ := nat (hS (by omega)).1
    obtain ⟨b, rfl⟩ := nat (hB (by omega)).1
    exact (one_8 a b c ra wa ca ha rn rc wn wc cn cc 24 hc oc gr go reg out w hl hr ho (by have := hS (by omega); omega) (by have := hB (by omega); omega)).mono fun e w' h => fin2 h
  · obtain ⟨a, rfl⟩ := nat (hS (by omega)).1
    exact (one_9 a b c ra wa ca ha rn rc wn wc cn cc 24 hc oc gr go out w ho (by have := hS (by omega); omega)).mono fun e w' h => fin2 h
  · have e : oneStep ⟨op, a, b, c⟩ t.r hv reg out = (reg, out) := by
      simp only [oneStep]
      rw [if_neg (by omega), if_neg (by omega), if_neg (by omega), if_neg (by omega), if_neg (by omega), if_neg (by omega), if_neg (by omega), if_neg (by omega), if_neg (by omega)]
    rw [e]
    exact (one_no op a b c ra wa ca ha _ _ rn rc wn wc cn cc 24 hc _ _ _ oc w h9).mono fun e w' ⟨h1, h2⟩ => ⟨h1, hr.below' h2, ho.below' h2, Chg.of_below h2 _⟩

end Go.Proofs.YtlheloogmgmjnaaGreat
