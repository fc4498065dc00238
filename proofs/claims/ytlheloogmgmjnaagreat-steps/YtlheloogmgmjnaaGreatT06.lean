import Derived.Test.YtlheloogmgmjnaaGreatT04
import Derived.Test.YtlheloogmgmjnaaGreatT05
namespace Go.Proofs.YtlheloogmgmjnaaGreat
open Go.RowKit

set_option maxHeartbeats 1000000 in
theorem rSound_9 (a b c : Int) (ra wa ca : Option Addr) (rn rc wn wc cn cc : Nat) (w : World) :
    Calls Tryz.prog 155 #[.agg #[.int .i64 9, .int .i64 a, .int .i64 b, .int .i64 c], .agg #[.slice ra rn rc, .slice wa wn wc, .slice ca cn cc]] w fun e w' => e = .returned (.bool (soundB ⟨9, a, b, c⟩ rn wn)) ∧ Below w.heap.size w w' := by
  have HB := hide (by simp [soundB, Bool.and_assoc] : soundB ⟨9, a, b, c⟩ rn wn = (bel a wn && ((b == 0) && (c == 0))))
  go_enter Tryz.func155, Tryz.ntmps155
  go_wp2_with fail
  refine (rshape_9 _).mono ?_
  rintro e w1 ⟨rfl, hw1⟩
  have cx := fun (o : Nat) (v : Value) (h : (w.alloc (Obj.cells #[.int .i64 9, .int .i64 a, .int .i64 b, .int .i64 c] 114)).cell? ⟨w.heap.size, o, none⟩ = some v) => cell_below hw1 (Nat.le_refl _) (cell_below (below_alloc1 _ _) (Nat.le_refl _) h)
  have c1 := (bcell hw1).1
  have x1 : w1.cell? ⟨w.heap.size, 1, none⟩ = some (.int .i64 a) := cx 1 _ (by simp)
  have x2 : w1.cell? ⟨w.heap.size, 2, none⟩ = some (.int .i64 b) := cx 2 _ (by simp)
  have x3 : w1.cell? ⟨w.heap.size, 3, none⟩ = some (.int .i64 c) := cx 3 _ (by simp)
  have y0 : w1.cell? ⟨w.heap.size + 1, 0, none⟩ = some (.slice ra rn rc) := by rw [c1 _ _ (by simp)]; simp
  have y1 : w1.cell? ⟨w.heap.size + 1, 1, none⟩ = some (.slice wa wn wc) := by rw [c1 _ _ (by simp)]; simp
  have y2 : w1.cell? ⟨w.heap.size + 1, 2, none⟩ = some (.slice ca cn cc) := by rw [c1 _ _ (by simp)]; simp
  have hw := below_alloc (below_alloc hw1)
  clear c1 hw1 cx
  have KL := hide (fun w' (hB : Below w1.heap.size w1 w') => And.intro (cell_below hB (Nat.le_refl _) x1) (And.intro (cell_below hB (Nat.le_refl _) y0) (And.intro (cell_below hB (Nat.le_refl _) y1) (And.intro (cell_below hB (Nat.le_refl _) y2) hB))))
  go_wp2
  go_region_held (fun w' => w'.cell? ⟨w.heap.size, 1, none⟩ = some (.int .i64 a) ∧ w'.cell? ⟨w.heap.size + 1, 0, none⟩ = some (.slice ra rn rc) ∧ w'.cell? ⟨w.heap.size + 1, 1, none⟩ = some (.slice wa wn wc) ∧ w'.cell? ⟨w.heap.size + 1, 2, none⟩ = some (.slice ca cn cc) ∧ Below w1.heap.size w1 w') (first | (refine KL.out _ ?_; exact (Below.refl _ _).drew) | (refine KL.out _ (below_on ?_ hw2); exact (Below.refl _ _).drew))
    (first | (go_at_call 183; refine (roperand_111 _ _ _ _ _ _ _ _ _ _ _).mono ?_; rintro e w2 ⟨rfl, hw2⟩))
  have hw2' : Below w1.heap.size w1 w2 := below_on (Below.refl _ _).drew hw2
  clear KL hw2
  replace x2 := cell_below hw2' (Nat.le_refl _) x2
  replace x3 := cell_below hw2' (Nat.le_refl _) x3
  replace y0 := cell_below hw2' (Nat.le_refl _) y0
  replace y1 := cell_below hw2' (Nat.le_refl _) y1
  replace y2 := cell_below hw2' (Nat.le_refl _) y2
  replace hw := below_on hw hw2'
  clear hw2' x1
  have KL := hide (fun w' (hB : Below w2.heap.size w2 w') => And.intro (cell_below hB (Nat.le_refl _) x2) (And.intro (cell_below hB (Nat.le_refl _) y0) (And.intro (cell_below hB (Nat.le_refl _) y1) (And.intro (cell_below hB (Nat.le_refl _) y2) hB))))
  go_wp2
  go_region_held (fun w' => w'.cell? ⟨w.heap.size, 2, none⟩ = some (.int .i64 b) ∧ w'.cell? ⟨w.heap.size + 1, 0, none⟩ = some (.slice ra rn rc) ∧ w'.cell? ⟨w.heap.size + 1, 1, none⟩ = some (.slice wa wn wc) ∧ w'.cell? ⟨w.heap.size + 1, 2, none⟩ = some (.slice ca cn cc) ∧ Below w2.heap.size w2 w') (first | (refine KL.out _ ?_; exact (Below.refl _ _).drew) | (refine KL.out _ (below_on ?_ hw3); exact (Below.refl _ _).drew))
    (first | (go_at_call 183; refine (roperand_45 _ _ _ _ _ _ _ _ _ _ _).mono ?_; rintro e w3 ⟨rfl, hw3⟩))
  have hw3' : Below w2.heap.size w2 w3 := below_on (Below.refl _ _).drew hw3
  clear KL hw3
  replace x2 := cell_below hw3' (Nat.le_refl _) x2
  replace x3 := cell_below hw3' (Nat.le_refl _) x3
  replace y0 := cell_below hw3' (Nat.le_refl _) y0
  replace y1 := cell_below hw3' (Nat.le_refl _) y1
  replace y2 := cell_below hw3' (Nat.le_refl _) y2
  replace hw := below_on hw hw3'
  clear hw3'
  have KL := hide (fun w' (hB : Below w3.heap.size w3 w') => And.intro (cell_below hB (Nat.le_refl _) x3) (And.intro (cell_below hB (Nat.le_refl _) y0) (And.intro (cell_below hB (Nat.le_refl _) y1) (And.intro (cell_below hB (Nat.le_refl _) y2) hB))))
  go_wp2
  go_region_held (fun w' => w'.cell? ⟨w.heap.size, 3, none⟩ = some (.int .i64 c) ∧ w'.cell? ⟨w.heap.size + 1, 0, none⟩ = some (.slice ra rn rc) ∧ w'.cell? ⟨w.heap.size + 1, 1, none⟩ = some (.slice wa wn wc) ∧ w'.cell? ⟨w.heap.size + 1, 2, none⟩ = some (.slice ca cn cc) ∧ Below w3.heap.size w3 w') (first | (refine KL.out _ ?_; exact (Below.refl _ _).drew) | (refine KL.out _ (below_on ?_ hw4); exact (Below.refl _ _).drew))
    (first | (go_at_call 183; refine (roperand_45 _ _ _ _ _ _ _ _ _ _ _).mono ?_; rintro e w4 ⟨rfl, hw4⟩))
  have hw4' : Below w.heap.size w w4 := below_on hw (below_on (Below.refl _ _).drew hw4)
  clear KL hw4 hw x2 x3 y0 y1 y2
  generalize bel a wn = p0 at *
  generalize (b == 0) = p1 at *
  generalize (c == 0) = p2 at *
  cases p0 <;> cases p1
  all_goals
    go_wp2
    go_ret
    exact ⟨ret_bool (by rw [HB.out]; rfl), hw4'⟩

set_option maxHeartbeats 1000000 in
theorem rSound_10 (a b c : Int) (ra wa ca : Option Addr) (rn rc wn wc cn cc : Nat) (w : World) :
    Calls Tryz.prog 155 #[.agg #[.int .i64 10, .int .i64 a, .int .i64 b, .int .i64 c], .agg #[.slice ra rn rc, .slice wa wn wc, .slice ca cn cc]] w fun e w' => e = .returned (.bool (soundB ⟨10, a, b, c⟩ rn wn)) ∧ Below w.heap.size w w' := by
  have HB := hide (by simp [soundB, Bool.and_assoc] : soundB ⟨10, a, b, c⟩ rn wn = (bel a 6 && ((decide (1 ≤ b) && decide (b ≤ 30)) && (c == 0))))
  go_enter Tryz.func155, Tryz.ntmps155
  go_wp2_with fail
  refine (rshape_10 _).mono ?_
  rintro e w1 ⟨rfl, hw1⟩
  have cx := fun (o : Nat) (v : Value) (h : (w.alloc (Obj.cells #[.int .i64 10, .int .i64 a, .int .i64 b, .int .i64 c] 114)).cell? ⟨w.heap.size, o, none⟩ = some v) => cell_below hw1 (Nat.le_refl _) (cell_below (below_alloc1 _ _) (Nat.le_refl _) h)
  have c1 := (bcell hw1).1
  have x1 : w1.cell? ⟨w.heap.size, 1, none⟩ = some (.int .i64 a) := cx 1 _ (by simp)
  have x2 : w1.cell? ⟨w.heap.size, 2, none⟩ = some (.int .i64 b) := cx 2 _ (by simp)
  have x3 : w1.cell? ⟨w.heap.size, 3, none⟩ = some (.int .i64 c) := cx 3 _ (by simp)
  have y0 : w1.cell? ⟨w.heap.size + 1, 0, none⟩ = some (.slice ra rn rc) := by rw [c1 _ _ (by simp)]; simp
  have y1 : w1.cell? ⟨w.heap.size + 1, 1, none⟩ = some (.slice wa wn wc) := by rw [c1 _ _ (by simp)]; simp
  have y2 : w1.cell? ⟨w.heap.size + 1, 2, none⟩ = some (.slice ca cn cc) := by rw [c1 _ _ (by simp)]; simp
  have hw := below_alloc (below_alloc hw1)
  clear c1 hw1 cx
  have KL := hide (fun w' (hB : Below w1.heap.size w1 w') => And.intro (cell_below hB (Nat.le_refl _) x1) (And.intro (cell_below hB (Nat.le_refl _) y0) (And.intro (cell_below hB (Nat.le_refl _) y1) (And.intro (cell_below hB (Nat.le_refl _) y2) hB))))
  go_wp2
  go_region_held (fun w' => w'.cell? ⟨w.heap.size, 1, none⟩ = some (.int .i64 a) ∧ w'.cell? ⟨w.heap.size + 1, 0, none⟩ = some (.slice ra rn rc) ∧ w'.cell? ⟨w.heap.size + 1, 1, none⟩ = some (.slice wa wn wc) ∧ w'.cell? ⟨w.heap.size + 1, 2, none⟩ = some (.slice ca cn cc) ∧ Below w1.heap.size w1 w') (first | (refine KL.out _ ?_; exact (Below.refl _ _).drew) | (refine KL.out _ (below_on ?_ hw2); exact (Below.refl _ _).drew))
    (first | (go_at_call 183; refine (roperand_114 _ _ _ _ _ _ _ _ _ _ _).mono ?_; rintro e w2 ⟨rfl, hw2⟩))
  have hw2' : Below w1.heap.size w1 w2 := below_on (Below.refl _ _).drew hw2
  clear KL hw2
  replace x2 := cell_below hw2' (Nat.le_refl _) x2
  replace x3 := cell_below hw2' (Nat.le_refl _) x3
  replace y0 := cell_below hw2' (Nat.le_refl _) y0
  replace y1 := cell_below hw2' (Nat.le_refl _) y1
  replace y2 := cell_below hw2' (Nat.le_refl _) y2
  replace hw := below_on hw hw2'
  clear hw2' x1
  have KL := hide (fun w' (hB : Below w2.heap.size w2 w') => And.intro (cell_below hB (Nat.le_refl _) x2) (And.intro (cell_below hB (Nat.le_refl _) y0) (And.intro (cell_below hB (Nat.le_refl _) y1) (And.intro (cell_below hB (Nat.le_refl _) y2) hB))))
  go_wp2
  go_region_held (fun w' => w'.cell? ⟨w.heap.size, 2, none⟩ = some (.int .i64 b) ∧ w'.cell? ⟨w.heap.size + 1, 0, none⟩ = some (.slice ra rn rc) ∧ w'.cell? ⟨w.heap.size + 1, 1, none⟩ = some (.slice wa wn wc) ∧ w'.cell? ⟨w.heap.size + 1, 2, none⟩ = some (.slice ca cn cc) ∧ Below w2.heap.size w2 w') (first | (refine KL.out _ ?_; exact (Below.refl _ _).drew) | (refine KL.out _ (below_on ?_ hw3); exact (Below.refl _ _).drew))
    (first | (go_at_call 183; refine (roperand_115 _ _ _ _ _ _ _ _ _ _ _).mono ?_; rintro e w3 ⟨rfl, hw3⟩))
  have hw3' : Below w2.heap.size w2 w3 := below_on (Below.refl _ _).drew hw3
  clear KL hw3
  replace x2 := cell_below hw3' (Nat.le_refl _) x2
  replace x3 := cell_below hw3' (Nat.le_refl _) x3
  replace y0 := cell_below hw3' (Nat.le_refl _) y0
  replace y1 := cell_below hw3' (Nat.le_refl _) y1
  replace y2 := cell_below hw3' (Nat.le_refl _) y2
  replace hw := below_on hw hw3'
  clear hw3'
  have KL := hide (fun w' (hB : Below w3.heap.size w3 w') => And.intro (cell_below hB (Nat.le_refl _) x3) (And.intro (cell_below hB (Nat.le_refl _) y0) (And.intro (cell_below hB (Nat.le_refl _) y1) (And.intro (cell_below hB (Nat.le_refl _) y2) hB))))
  go_wp2
  go_region_held (fun w' => w'.cell? ⟨w.heap.size, 3, none⟩ = some (.int .i64 c) ∧ w'.cell? ⟨w.heap.size + 1, 0, none⟩ = some (.slice ra rn rc) ∧ w'.cell? ⟨w.heap.size + 1, 1, none⟩ = some (.slice wa wn wc) ∧ w'.cell? ⟨w.heap.size + 1, 2, none⟩ = some (.slice ca cn cc) ∧ Below w3.heap.size w3 w') (first | (refine KL.out _ ?_; exact (Below.refl _ _).drew) | (refine KL.out _ (below_on ?_ hw4); exact (Below.refl _ _).drew))
    (first | (go_at_call 183; refine (roperand_45 _ _ _ _ _ _ _ _ _ _ _).mono ?_; rintro e w4 ⟨rfl, hw4⟩))
  have hw4' : Below w.heap.size w w4 := below_on hw (below_on (Below.refl _ _).drew hw4)
  clear KL hw4 hw x2 x3 y0 y1 y2
  generalize bel a 6 = p0 at *
  generalize (decide (1 ≤ b) && decide (b ≤ 30)) = p1 at *
  generalize (c == 0) = p2 at *
  cases p0 <;> cases p1
  all_goals
    go_wp2
    go_ret
    exact ⟨ret_bool (by rw [HB.out]; rfl), hw4'⟩

set_option maxHeartbeats 1000000 in
theorem rSound_11 (a b c : Int) (ra wa ca : Option Addr) (rn rc wn wc cn cc : Nat) (w : World) :
    Calls Tryz.prog 155 #[.agg #[.int .i64 11, .int .i64 a, .int .i64 b, .int .i64 c], .agg #[.slice ra rn rc, .slice wa wn wc, .slice ca cn cc]] w fun e w' => e = .returned (.bool (soundB ⟨11, a, b, c⟩ rn wn)) ∧ Below w.heap.size w w' := by
  have HB := hide (by simp [soundB, Bool.and_assoc] : soundB ⟨11, a, b, c⟩ rn wn = ((a == 0) && ((b == 0) && (c == 0))))
  go_enter Tryz.func155, Tryz.ntmps155
  go_wp2_with fail
  refine (rshape_11 _).mono ?_
  rintro e w1 ⟨rfl, hw1⟩
  have cx := fun (o : Nat) (v : Value) (h : (w.alloc (Obj.cells #[.int .i64 11, .int .i64 a, .int .i64 b, .int .i64 c] 114)).cell? ⟨w.heap.size, o, none⟩ = some v) => cell_below hw1 (Nat.le_refl _) (cell_below (below_alloc1 _ _) (Nat.le_refl _) h)
  have c1 := (bcell hw1).1
  have x1 : w1.cell? ⟨w.heap.size, 1, none⟩ = some (.int .i64 a) := cx 1 _ (by simp)
  have x2 : w1.cell? ⟨w.heap.size, 2, none⟩ = some (.int .i64 b) := cx 2 _ (by simp)
  have x3 : w1.cell? ⟨w.heap.size, 3, none⟩ = some (.int .i64 c) := cx 3 _ (by simp)
  have y0 : w1.cell? ⟨w.heap.size + 1, 0, none⟩ = some (.slice ra rn rc) := by rw [c1 _ _ (by simp)]; simp
  have y1 : w1.cell? ⟨w.heap.size + 1, 1, none⟩ = some (.slice wa wn wc) := by rw [c1 _ _ (by simp)]; simp
  have y2 : w1.cell? ⟨w.heap.size + 1, 2, none⟩ = some (.slice ca cn cc) := by rw [c1 _ _ (by simp)]; simp
  have hw := below_alloc (below_alloc hw1)
  clear c1 hw1 cx
  have KL := hide (fun w' (hB : Below w1.heap.size w1 w') => And.intro (cell_below hB (Nat.le_refl _) x1) (And.intro (cell_below hB (Nat.le_refl _) y0) (And.intro (cell_below hB (Nat.le_refl _) y1) (And.intro (cell_below hB (Nat.le_refl _) y2) hB))))
  go_wp2
  go_region_held (fun w' => w'.cell? ⟨w.heap.size, 1, none⟩ = some (.int .i64 a) ∧ w'.cell? ⟨w.heap.size + 1, 0, none⟩ = some (.slice ra rn rc) ∧ w'.cell? ⟨w.heap.size + 1, 1, none⟩ = some (.slice wa wn wc) ∧ w'.cell? ⟨w.heap.size + 1, 2, none⟩ = some (.slice ca cn cc) ∧ Below w1.heap.size w1 w') (first | (refine KL.out _ ?_; exact (Below.refl _ _).drew) | (refine KL.out _ (below_on ?_ hw2); exact (Below.refl _ _).drew))
    (first | (go_at_call 183; refine (roperand_45 _ _ _ _ _ _ _ _ _ _ _).mono ?_; rintro e w2 ⟨rfl, hw2⟩))
  have hw2' : Below w1.heap.size w1 w2 := below_on (Below.refl _ _).drew hw2
  clear KL hw2
  replace x2 := cell_below hw2' (Nat.le_refl _) x2
  replace x3 := cell_below hw2' (Nat.le_refl _) x3
  replace y0 := cell_below hw2' (Nat.le_refl _) y0
  replace y1 := cell_below hw2' (Nat.le_refl _) y1
  replace y2 := cell_below hw2' (Nat.le_refl _) y2
  replace hw := below_on hw hw2'
  clear hw2' x1
  have KL := hide (fun w' (hB : Below w2.heap.size w2 w') => And.intro (cell_below hB (Nat.le_refl _) x2) (And.intro (cell_below hB (Nat.le_refl _) y0) (And.intro (cell_below hB (Nat.le_refl _) y1) (And.intro (cell_below hB (Nat.le_refl _) y2) hB))))
  go_wp2
  go_region_held (fun w' => w'.cell? ⟨w.heap.size, 2, none⟩ = some (.int .i64 b) ∧ w'.cell? ⟨w.heap.size + 1, 0, none⟩ = some (.slice ra rn rc) ∧ w'.cell? ⟨w.heap.size + 1, 1, none⟩ = some (.slice wa wn wc) ∧ w'.cell? ⟨w.heap.size + 1, 2, none⟩ = some (.slice ca cn cc) ∧ Below w2.heap.size w2 w') (first | (refine KL.out _ ?_; exact (Below.refl _ _).drew) | (refine KL.out _ (below_on ?_ hw3); exact (Below.refl _ _).drew))
    (first | (go_at_call 183; refine (roperand_45 _ _ _ _ _ _ _ _ _ _ _).mono ?_; rintro e w3 ⟨rfl, hw3⟩))
  have hw3' : Below w2.heap.size w2 w3 := below_on (Below.refl _ _).drew hw3
  clear KL hw3
  replace x2 := cell_below hw3' (Nat.le_refl _) x2
  replace x3 := cell_below hw3' (Nat.le_refl _) x3
  replace y0 := cell_below hw3' (Nat.le_refl _) y0
  replace y1 := cell_below hw3' (Nat.le_refl _) y1
  replace y2 := cell_below hw3' (Nat.le_refl _) y2
  replace hw := below_on hw hw3'
  clear hw3'
  have KL := hide (fun w' (hB : Below w3.heap.size w3 w') => And.intro (cell_below hB (Nat.le_refl _) x3) (And.intro (cell_below hB (Nat.le_refl _) y0) (And.intro (cell_below hB (Nat.le_refl _) y1) (And.intro (cell_below hB (Nat.le_refl _) y2) hB))))
  go_wp2
  go_region_held (fun w' => w'.cell? ⟨w.heap.size, 3, none⟩ = some (.int .i64 c) ∧ w'.cell? ⟨w.heap.size + 1, 0, none⟩ = some (.slice ra rn rc) ∧ w'.cell? ⟨w.heap.size + 1, 1, none⟩ = some (.slice wa wn wc) ∧ w'.cell? ⟨w.heap.size + 1, 2, none⟩ = some (.slice ca cn cc) ∧ Below w3.heap.size w3 w') (first | (refine KL.out _ ?_; exact (Below.refl _ _).drew) | (refine KL.out _ (below_on ?_ hw4); exact (Below.refl _ _).drew))
    (first | (go_at_call 183; refine (roperand_45 _ _ _ _ _ _ _ _ _ _ _).mono ?_; rintro e w4 ⟨rfl, hw4⟩))
  have hw4' : Below w.heap.size w w4 := below_on hw (below_on (Below.refl _ _).drew hw4)
  clear KL hw4 hw x2 x3 y0 y1 y2
  generalize (a == 0) = p0 at *
  generalize (b == 0) = p1 at *
  generalize (c == 0) = p2 at *
  cases p0 <;> cases p1
  all_goals
    go_wp2
    go_ret
    exact ⟨ret_bool (by rw [HB.out]; rfl), hw4'⟩

end Go.Proofs.YtlheloogmgmjnaaGreat

namespace Go.Proofs.YtlheloogmgmjnaaGreat
open Go.RowKit

set_option maxHeartbeats 1000000 in
theorem rSound_no (op a b c : Int) (ra wa ca : Option Addr) (rn rc wn wc cn cc : Nat) (w : World) (h : op < 1 ∨ 11 < op) :
    Calls Tryz.prog 155 #[.agg #[.int .i64 op, .int .i64 a, .int .i64 b, .int .i64 c], .agg #[.slice ra rn rc, .slice wa wn wc, .slice ca cn cc]] w fun e w' => e = .returned (.bool (soundB ⟨op, a, b, c⟩ rn wn)) ∧ Below w.heap.size w w' := by
  have HB := hide (show soundB ⟨op, a, b, c⟩ rn wn = false by
    simp only [soundB]
    rw [if_neg (by omega), if_neg (by omega), if_neg (by omega), if_neg (by omega), if_neg (by omega), if_neg (by omega), if_neg (by omega)])
  go_enter Tryz.func155, Tryz.ntmps155
  go_wp2_with fail
  refine (rshape_no _ _ h).mono ?_
  rintro e w1 ⟨rfl, hw1⟩
  have hw := below_alloc (below_alloc hw1)
  clear hw1
  go_wp2
  go_ret
  exact ⟨ret_bool HB.out.symm, hw⟩

theorem rSound_any (x : Ins) (ra wa ca : Option Addr) (rn rc wn wc cn cc : Nat) (w : World) :
    Calls Tryz.prog 155 #[x.val, .agg #[.slice ra rn rc, .slice wa wn wc, .slice ca cn cc]] w fun e w' => e = .returned (.bool (soundB x rn wn)) ∧ Below w.heap.size w w' := by
  obtain ⟨op, a, b, c⟩ := x
  by_cases h : op < 1 ∨ 11 < op
  · exact rSound_no op a b c ra wa ca rn rc wn wc cn cc w h
  have : op = 1 ∨ op = 2 ∨ op = 3 ∨ op = 4 ∨ op = 5 ∨ op = 6 ∨ op = 7 ∨ op = 8 ∨ op = 9 ∨ op = 10 ∨ op = 11 := by omega
  rcases this with rfl | rfl | rfl | rfl | rfl | rfl | rfl | rfl | rfl | rfl | rfl
  · exact rSound_1 a b c ra wa ca rn rc wn wc cn cc w
  · exact rSound_2 a b c ra wa ca rn rc wn wc cn cc w
  · exact rSound_3 a b c ra wa ca rn rc wn wc cn cc w
  · exact rSound_4 a b c ra wa ca rn rc wn wc cn cc w
  · exact rSound_5 a b c ra wa ca rn rc wn wc cn cc w
  · exact rSound_6 a b c ra wa ca rn rc wn wc cn cc w
  · exact rSound_7 a b c ra wa ca rn rc wn wc cn cc w
  · exact rSound_8 a b c ra wa ca rn rc wn wc cn cc w
  · exact rSound_9 a b c ra wa ca rn rc wn wc cn cc w
  · exact rSound_10 a b c ra wa ca rn rc wn wc cn cc w
  · exact rSound_11 a b c ra wa ca rn rc wn wc cn cc w

end Go.Proofs.YtlheloogmgmjnaaGreat
