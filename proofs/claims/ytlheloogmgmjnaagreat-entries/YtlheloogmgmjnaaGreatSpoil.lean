import Derived.Test.YtlheloogmgmjnaaGreatHanded
import Derived.Test.YtlheloogmgmjnaaGreatChg
namespace Go.Proofs.YtlheloogmgmjnaaGreat
open Go.RowKit

/-- A block of so many numbers, whatever they are. -/
def IntRow (w : World) (g L : Nat) : Prop := ∃ xs : List Int, xs.length = L ∧ RowAt w g 3 (ints xs)
/-- A block of so many instructions. -/
def InsRow (w : World) (g L : Nat) : Prop := ∃ cs : List Ins, cs.length = L ∧ RowAt w g 114 (insCells cs)

theorem ints_set' (xs : List Int) (i : Nat) (y : Int) : (ints xs).set i (.int .i64 y) = ints (xs.set i y) := by simp [ints, List.map_set]

theorem IntRow.put {w : World} {g L : Nat} (h : IntRow w g L) (b i : Nat) (v : Int) : IntRow (w.setCell ⟨b, i, none⟩ (.int .i64 v)) g L := by
  obtain ⟨xs, hl, hr⟩ := h
  by_cases hb : g = b
  · subst hb
    refine ⟨xs.set i v, by simpa using hl, ?_⟩
    rw [← ints_set']; exact hr.set i _
  · exact ⟨xs, hl, hr.setOther hb _⟩

theorem IntRow.other {w : World} {g L : Nat} (h : IntRow w g L) {a : Addr} (ha : g ≠ a.block) (v : Value) : IntRow (w.setCell a v) g L := by
  obtain ⟨xs, hl, hr⟩ := h; exact ⟨xs, hl, hr.setOther ha _⟩
theorem InsRow.other {w : World} {g L : Nat} (h : InsRow w g L) {a : Addr} (ha : g ≠ a.block) (v : Value) : InsRow (w.setCell a v) g L := by
  obtain ⟨xs, hl, hr⟩ := h; exact ⟨xs, hl, hr.setOther ha _⟩

theorem InsRow.put {w : World} {g L : Nat} (h : InsRow w g L) (i : Nat) (hi : i < L) (x : Ins) :
    InsRow ((((w.setCell ⟨g, i * 4, none⟩ (.int .i64 x.op)).setCell ⟨g, i * 4 + 1, none⟩ (.int .i64 x.a)).setCell ⟨g, i * 4 + 2, none⟩ (.int .i64 x.b)).setCell ⟨g, i * 4 + 3, none⟩ (.int .i64 x.c)) g L := by
  obtain ⟨cs, hl, hr⟩ := h
  refine ⟨cs.set i x, by simpa using hl, ?_⟩
  rw [← insCells_set cs x i (by omega)]
  exact (((hr.set _ _).set _ _).set _ _).set _ _

theorem IntRow.cell {w : World} {g L : Nat} (h : IntRow w g L) {k : Nat} (hk : k < L) : ∃ z : Int, w.cell? ⟨g, k, none⟩ = some (.int .i64 z) := by
  obtain ⟨xs, hl, hr⟩ := h; exact ⟨_, hr.cell' (ints_getD xs k (by omega))⟩
theorem IntRow.frozen {w : World} {g L : Nat} (h : IntRow w g L) (k : Nat) : w.frozen? ⟨g, k, none⟩ = false := by obtain ⟨xs, hl, hr⟩ := h; exact hr.frozen k
theorem InsRow.frozen {w : World} {g L : Nat} (h : InsRow w g L) (k : Nat) : w.frozen? ⟨g, k, none⟩ = false := by obtain ⟨xs, hl, hr⟩ := h; exact hr.frozen k
theorem InsRow.cells {w : World} {g L : Nat} (h : InsRow w g L) {k : Nat} (hk : k < L) : ∃ x : Ins, w.cell? ⟨g, k * 4, none⟩ = some (.int .i64 x.op) ∧ w.cell? ⟨g, k * 4 + 1, none⟩ = some (.int .i64 x.a) ∧ w.cell? ⟨g, k * 4 + 2, none⟩ = some (.int .i64 x.b) ∧ w.cell? ⟨g, k * 4 + 3, none⟩ = some (.int .i64 x.c) := by
  obtain ⟨cs, hl, hr⟩ := h
  obtain ⟨c0, c1, c2, c3⟩ := insCells_get cs k (by omega)
  exact ⟨_, hr.cell' c0, hr.cell' c1, hr.cell' c2, hr.cell' c3⟩
theorem IntRow.ne_ins {w : World} {g g' L L' : Nat} (h : IntRow w g L) (h' : InsRow w g' L') : g ≠ g' := by
  rintro rfl
  obtain ⟨xs, _, hr⟩ := h; obtain ⟨cs, _, hr'⟩ := h'
  unfold RowAt at hr hr'
  rw [hr] at hr'; simp at hr'
theorem IntRow.below {w w' : World} {g L : Nat} (h : IntRow w g L) (hb : Below w.heap.size w w') : IntRow w' g L := by obtain ⟨xs, hl, hr⟩ := h; exact ⟨xs, hl, hr.below' hb⟩
theorem InsRow.below {w w' : World} {g L : Nat} (h : InsRow w g L) (hb : Below w.heap.size w w') : InsRow w' g L := by obtain ⟨xs, hl, hr⟩ := h; exact ⟨xs, hl, hr.below' hb⟩
theorem IntRow.lt {w : World} {g L : Nat} (h : IntRow w g L) : g < w.heap.size := by obtain ⟨xs, hl, hr⟩ := h; exact hr.lt
theorem InsRow.lt {w : World} {g L : Nat} (h : InsRow w g L) : g < w.heap.size := by obtain ⟨xs, hl, hr⟩ := h; exact hr.lt

/-- What stands through all of spoil. -/
structure SpoilAt (w wr : World) (g0 g1 g2 L0 L1 L2 : Nat) (box : List Value) : Prop where
  r : IntRow wr g0 L0
  q : IntRow wr g1 L1
  c : InsRow wr g2 L2
  b : RowAt wr w.heap.size 33 box
  g0l : g0 < w.heap.size
  g1l : g1 < w.heap.size
  g2l : g2 < w.heap.size
  ch : Chg w wr (fun k => k = g0 ∨ k = g1 ∨ k = g2)

theorem SpoilAt.put0 {w wr : World} {g0 g1 g2 L0 L1 L2 : Nat} {box : List Value} (h : SpoilAt w wr g0 g1 g2 L0 L1 L2 box) (i : Nat) (v : Int) : SpoilAt w (wr.setCell ⟨g0, i, none⟩ (.int .i64 v)) g0 g1 g2 L0 L1 L2 box :=
  ⟨h.r.put _ _ _, h.q.put _ _ _, h.c.other (Ne.symm (h.r.ne_ins h.c)) _, h.b.setOther (by have := h.g0l; show w.heap.size ≠ g0; omega) _, h.g0l, h.g1l, h.g2l, h.ch.put _ _ (Or.inl rfl)⟩
theorem SpoilAt.put1 {w wr : World} {g0 g1 g2 L0 L1 L2 : Nat} {box : List Value} (h : SpoilAt w wr g0 g1 g2 L0 L1 L2 box) (i : Nat) (v : Int) : SpoilAt w (wr.setCell ⟨g1, i, none⟩ (.int .i64 v)) g0 g1 g2 L0 L1 L2 box :=
  ⟨h.r.put _ _ _, h.q.put _ _ _, h.c.other (Ne.symm (h.q.ne_ins h.c)) _, h.b.setOther (by have := h.g1l; show w.heap.size ≠ g1; omega) _, h.g0l, h.g1l, h.g2l, h.ch.put _ _ (Or.inr (Or.inl rfl))⟩
theorem SpoilAt.put2 {w wr : World} {g0 g1 g2 L0 L1 L2 : Nat} {box : List Value} (h : SpoilAt w wr g0 g1 g2 L0 L1 L2 box) (i : Nat) (hi : i < L2) (x : Ins) :
    SpoilAt w ((((wr.setCell ⟨g2, i * 4, none⟩ (.int .i64 x.op)).setCell ⟨g2, i * 4 + 1, none⟩ (.int .i64 x.a)).setCell ⟨g2, i * 4 + 2, none⟩ (.int .i64 x.b)).setCell ⟨g2, i * 4 + 3, none⟩ (.int .i64 x.c)) g0 g1 g2 L0 L1 L2 box := by
  have n0 := h.r.ne_ins h.c
  have n1 := h.q.ne_ins h.c
  have nb : w.heap.size ≠ g2 := by have := h.g2l; omega
  have d : ∀ k, k = g2 → (k = g0 ∨ k = g1 ∨ k = g2) := fun k hk => Or.inr (Or.inr hk)
  exact ⟨(((h.r.other n0 _).other n0 _).other n0 _).other n0 _, (((h.q.other n1 _).other n1 _).other n1 _).other n1 _, h.c.put i hi x, (((h.b.setOther nb _).setOther nb _).setOther nb _).setOther nb _, h.g0l, h.g1l, h.g2l,
    (((h.ch.put _ _ (d _ rfl)).put _ _ (d _ rfl)).put _ _ (d _ rfl)).put _ _ (d _ rfl)⟩

set_option maxHeartbeats 2000000 in
set_option maxRecDepth 100000 in
theorem spoil_any (g0 g1 g2 n0 n1 n2 c0 c1 c2 L0 L1 L2 : Nat) (w : World) (h0 : IntRow w g0 L0) (h1 : IntRow w g1 L1) (h2 : InsRow w g2 L2) (l0 : n0 ≤ L0) (l1 : n1 ≤ L1) (l2 : n2 ≤ L2)
    (m0 : n0 ≤ 140737488355328) (m1 : n1 ≤ 140737488355328) (m2 : n2 ≤ 140737488355328) :
    Calls Tryz.prog 72 #[.agg #[.slice (some ⟨g0, 0, none⟩) n0 c0, .slice (some ⟨g1, 0, none⟩) n1 c1, .slice (some ⟨g2, 0, none⟩) n2 c2]] w fun e w' => (∃ v, e = .returned v) ∧ Chg w w' (fun k => k = g0 ∨ k = g1 ∨ k = g2) := by
  have S0 : Hid (SpoilAt w (w.alloc (.cells #[.slice (some ⟨g0, 0, none⟩) n0 c0, .slice (some ⟨g1, 0, none⟩) n1 c1, .slice (some ⟨g2, 0, none⟩) n2 c2] 33)) g0 g1 g2 L0 L1 L2 [.slice (some ⟨g0, 0, none⟩) n0 c0, .slice (some ⟨g1, 0, none⟩) n1 c1, .slice (some ⟨g2, 0, none⟩) n2 c2]) :=
    ⟨h0.below (below_alloc1 _ _), h1.below (below_alloc1 _ _), h2.below (below_alloc1 _ _), rowAt_alloc w _ _, h0.lt, h1.lt, h2.lt, Chg.of_below (below_alloc1 _ _) _⟩
  clear h0 h1 h2
  go_enter Tryz.func72, Tryz.ntmps72
  go_wp2
  generalize w.alloc (.cells #[.slice (some ⟨g0, 0, none⟩) n0 c0, .slice (some ⟨g1, 0, none⟩) n1 c1, .slice (some ⟨g2, 0, none⟩) n2 c2] 33) = W0 at *
  go_loopw [2] (fun t wr => ∃ k : Nat, k ≤ n0 ∧ t = .int .i64 k ∧ Hid (SpoilAt w wr g0 g1 g2 L0 L1 L2 [.slice (some ⟨g0, 0, none⟩) n0 c0, .slice (some ⟨g1, 0, none⟩) n1 c1, .slice (some ⟨g2, 0, none⟩) n2 c2])) (fun t _ => n0 - (intOf t).toNat)
  case atStart => exact ⟨0, by omega, rfl, S0⟩
  case round =>
    obtain ⟨k, hk, rfl, hS⟩ := hrel
    clear S0
    have e0 := hS.out.b.cell' (i := 0) rfl
    by_cases hlt : k < n0
    · obtain ⟨z, hc⟩ := hS.out.r.cell (k := k) (by omega)
      have hf := hS.out.r.frozen k
      go_wp2
      go_roundw
      case rel => exact ⟨k + 1, by omega, by go_num, hide (hS.out.put0 _ _)⟩
      case measure => simp [intOf]; omega
    · go_wp2
      go_loopw [3] (fun t wr => ∃ k : Nat, k ≤ n1 ∧ t = .int .i64 k ∧ Hid (SpoilAt w wr g0 g1 g2 L0 L1 L2 [.slice (some ⟨g0, 0, none⟩) n0 c0, .slice (some ⟨g1, 0, none⟩) n1 c1, .slice (some ⟨g2, 0, none⟩) n2 c2])) (fun t _ => n1 - (intOf t).toNat)
      case atStart => exact ⟨0, by omega, rfl, hS⟩
      case round =>
        obtain ⟨k, hk, rfl, hS⟩ := hrel
        have e1 := hS.out.b.cell' (i := 1) rfl
        by_cases hlt : k < n1
        · obtain ⟨z, hc⟩ := hS.out.q.cell (k := k) (by omega)
          have hf := hS.out.q.frozen k
          go_wp2
          go_roundw
          case rel => exact ⟨k + 1, by omega, by go_num, hide (hS.out.put1 _ _)⟩
          case measure => simp [intOf]; omega
        · go_wp2
          go_loopw [4] (fun t wr => ∃ k : Nat, k ≤ n2 ∧ t = .int .i64 k ∧ Hid (SpoilAt w wr g0 g1 g2 L0 L1 L2 [.slice (some ⟨g0, 0, none⟩) n0 c0, .slice (some ⟨g1, 0, none⟩) n1 c1, .slice (some ⟨g2, 0, none⟩) n2 c2])) (fun t _ => n2 - (intOf t).toNat)
          case atStart => exact ⟨0, by omega, rfl, hS⟩
          case round =>
            obtain ⟨k, hk, rfl, hS⟩ := hrel
            have e2 := hS.out.b.cell' (i := 2) rfl
            by_cases hlt : k < n2
            · obtain ⟨x, x0, x1, x2, x3⟩ := hS.out.c.cells (k := k) (by omega)
              have hf := hS.out.c.frozen
              have HP := hide (hS.out.put2 k (by omega) ⟨11, 0, 0, 0⟩)
              clear hS
              go_wp2
              go_roundw
              case rel => exact ⟨k + 1, by omega, by go_num, HP⟩
              case measure => simp [intOf]; omega
            · go_wp2
              refine bodyPost_end (results_none rfl _ _ _) rfl ?_
              exact ⟨⟨_, rfl⟩, hS.out.ch⟩

end Go.Proofs.YtlheloogmgmjnaaGreat
