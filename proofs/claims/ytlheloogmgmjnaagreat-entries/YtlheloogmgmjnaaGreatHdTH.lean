import Derived.Test.YtlheloogmgmjnaaGreatRefCheckAll
import Derived.Test.YtlheloogmgmjnaaGreatHanded
namespace Go.Proofs.YtlheloogmgmjnaaGreat
open Go.RowKit

theorem RowAt.ints {w : World} {g : Nat} {t : TypeId} {xs ys : List Int} (h : RowAt w g t (ints (xs ++ ys))) : IntsAt w (some ⟨g, 0, none⟩) xs := by
  refine Or.inr ⟨g, 0, rfl, fun i hi => ?_⟩
  rw [Nat.zero_add]
  have := h.cell' (ints_getD (xs ++ ys) i (by simp; omega))
  rw [this]
  simp [List.getD, List.getElem?_append_left hi]

theorem RowAt.instrs {w : World} {g : Nat} {t : TypeId} {xs ys : List Ins} (h : RowAt w g t (insCells (xs ++ ys))) : InsAt w (some ⟨g, 0, none⟩) xs := by
  refine Or.inr ⟨g, 0, rfl, fun i hi => ?_⟩
  rw [Nat.zero_add]
  obtain ⟨c0, c1, c2, c3⟩ := insCells_get (xs ++ ys) i (by simp; omega)
  have e : (xs ++ ys).getD i Ins.zero = xs.getD i Ins.zero := by simp [List.getD, List.getElem?_append_left hi]
  rw [e] at c0 c1 c2 c3
  exact ⟨h.cell' c0, h.cell' c1, h.cell' c2, h.cell' c3⟩

/-- The header of what 'handed' makes. -/
def hdTH (g0 g1 g2 : Nat) (t : Tx) : TH := ⟨⟨some ⟨g0, 0, none⟩, t.r.length, t.r.length + 2⟩, ⟨some ⟨g1, 0, none⟩, t.w.length, t.w.length + 2⟩, ⟨some ⟨g2, 0, none⟩, t.c.length, t.c.length + 2⟩⟩

theorem hdTH_at {w w0 : World} {h : TH} {t : Tx} (hx : TxAt w0 h t) {g0 g1 g2 : Nat} (h0 : RowAt w g0 3 (ints (t.r ++ [77, 77]))) (h1 : RowAt w g1 3 (ints (t.w ++ [77, 77]))) (h2 : RowAt w g2 114 (insCells (t.c ++ [ins77, ins77]))) :
    TxAt w (hdTH g0 g1 g2 t) t :=
  ⟨rfl, rfl, rfl, by simp [hdTH], by simp [hdTH], by simp [hdTH], by have := hx.rb; rw [hx.rl] at this; exact this, by have := hx.wb; rw [hx.wl] at this; exact this, by have := hx.cb; rw [hx.cl] at this; exact this, h0.ints, h1.ints, h2.instrs⟩

end Go.Proofs.YtlheloogmgmjnaaGreat
