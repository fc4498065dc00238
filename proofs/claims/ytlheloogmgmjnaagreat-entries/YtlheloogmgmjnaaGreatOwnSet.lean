import Derived.Test.YtlheloogmgmjnaaGreatRefMem
namespace Go.Proofs.YtlheloogmgmjnaaGreat
open Go.RowKit

/-- A cell of what is owned is written. -/
theorem Own.set {w : World} {e : TypeId} {sz : Nat} {s : Sl} {xs : List Value} (h : Own w e sz s xs) {g : Nat} (ha : s.a = some ⟨g, 0, none⟩) (i : Nat) (v : Value) : Own (w.setCell ⟨g, i, none⟩ v) e sz s (xs.set i v) := by
  obtain ⟨hl, h | ⟨g', cap, cur, hv, hb, hh, hn, hm, hs, ht⟩⟩ := h
  · simp [ha] at h
  · simp [ha] at hv
    obtain ⟨h1, h2⟩ := hv
    subst h1 h2
    refine ⟨by simpa using hl, Or.inr ⟨g, s.c, (cur.toList.set i v).toArray, by rw [ha], hb, ?_, hn, hm, by simpa using hs, ?_⟩⟩
    · have hr : RowAt w g e cur.toList := by simpa [RowAt] using hh
      exact hr.set i v
    · rw [← ht, List.toList_toArray, List.take_set]

theorem Own.frozen {w : World} {e : TypeId} {sz : Nat} {s : Sl} {xs : List Value} (h : Own w e sz s xs) {g : Nat} (ha : s.a = some ⟨g, 0, none⟩) (i : Nat) : w.frozen? ⟨g, i, none⟩ = false := by
  rcases h.row with ⟨rfl, _⟩ | ⟨g', cur, ha', hr, _⟩
  · simp [Sl.nil] at ha
  · rw [ha] at ha'; simp at ha'; subst ha'; exact hr.frozen i

/-- A slot of what is owned is written. -/
theorem Own.setSlot {w : World} {e : TypeId} {s : Sl} {l : List Slot} (h : Own w e 2 s (slotCells l)) {g : Nat} (ha : s.a = some ⟨g, 0, none⟩) {n : Nat} (hn : n < l.length) (x : Slot) :
    Own ((w.setCell ⟨g, n * 2, none⟩ (.int .i64 x.v)).setCell ⟨g, n * 2 + 1, none⟩ (.bool x.th)) e 2 s (slotCells (l.set n x)) := by
  have := (h.set ha (n * 2) (.int .i64 x.v)).set ha (n * 2 + 1) (.bool x.th)
  rwa [slotCells_set l x n hn] at this

end Go.Proofs.YtlheloogmgmjnaaGreat
