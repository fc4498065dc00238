import Derived.Test.YtlheloogmgmjnaaGreatT04
namespace Go.Proofs.YtlheloogmgmjnaaGreat
open Go.RowKit

set_option maxHeartbeats 1000000 in
theorem rSound_5 (a b c : Int) (ra wa ca : Option Addr) (rn rc wn wc cn cc : Nat) (w : World) :
    Calls Tryz.prog 155 #[.agg #[.int .i64 5, .int .i64 a, .int .i64 b, .int .i64 c], .agg #[.slice ra rn rc, .slice wa wn wc, .slice ca cn cc]] w fun e w' => e = .returned (.bool (soundB ⟨5, a, b, c⟩ rn wn)) ∧ Below w.heap.size w w' := by
  have HB := hide (by simp [soundB, Bool.and_assoc] : soundB ⟨5, a, b, c⟩ rn wn = (bel a 6 && (bel b 6 && bel c 6)))
  go_enter Tryz.func155, Tryz.ntmps155
  go_wp2_with fail
  refine (rshape_5 _).mono ?_
  rintro e w1 ⟨rfl, hw1⟩
  have cx := fun (o : Nat) (v : Value) (h : (w.alloc (Obj.cells #[.int .i64 5, .int .i64 a, .int .i64 b, .int .i64 c] 114)).cell? ⟨w.heap.size, o, none⟩ = some v) => cell_below hw1 (Nat.le_refl _) (cell_below (below_alloc1 _ _) (Nat.le_refl _) h)
  have c1 := (bcell hw1).1
  have x1 : w1.cell? ⟨w.heap.size, 1, none⟩ = some (.int .i64 a) := cx 1 _ (by simp)
  have x2 : w1.cell? ⟨w.heap.size, 2, none⟩ = some (.int .i64 b) := cx 2 _ (by simp)
  have x3 : w1.cell? ⟨w.heap.size, 3, none⟩ = some (.int .i64 c) := cx 3 _ (by simp)
  have y0 : w1.cell? ⟨w.heap.size + 1, 0, none⟩ = some (.slice ra rn rc) := by rw [c1 _ _ (by simp)]; simp
  have y1 : w1.cell? ⟨w.heap.size + 1, 1, none⟩ = some (.slice wa wn wc) := by rw [c1 _ _ (by simp)]; simp
  have y2 : w1.cell? ⟨w.heap.size + 1, 2, none⟩ = some (.slice ca cn cc) := by rw [c1 _ _ (by simp)]; simp
  have hw := below_alloc (below_alloc hw1)
  clear c1 hw1 cx
  have KL := hide (fun w' (hB : Below w1.heap.size w1 w') => And.intro (cell_below hB (Nat.le_refl _) x1) (And.intro (cell_below hB (Nat.le_refl _) y0) (And.intro (cell_below hB (Nat.le_refl _) y1) (And.intro (cell_below hB (Nat.le_refl _) y2) hB))))
  go_wp2
  go_region_held (fun w' => w'.cell? ⟨w.heap.size, 1, none⟩ = some (.int .i64 a) ∧ w'.cell? ⟨w.heap.size + 1, 0, none⟩ = some (.slice ra rn rc) ∧ w'.cell? ⟨w.heap.size + 1, 1, none⟩ = some (.slice wa wn wc) ∧ w'.cell? ⟨w.heap.size + 1, 2, none⟩ = some (.slice ca cn cc) ∧ Below w1.heap.size w1 w') (first | (refine KL.out _ ?_; exact (Below.refl _ _).drew) | (refine KL.out _ (below_on ?_ hw2); exact (Below.refl _ _).drew))
    (first | (go_at_call 183; refine (roperand_114 _ _ _ _ _ _ _ _ _ _ _).mono ?_; rintro e w2 ⟨rfl, hw2⟩))
  have hw2' : Below w1.heap.size w1 w2 := below_on (Below.refl _ _).drew hw2
  clear KL hw2
  replace x2 := cell_below hw2' (Nat.le_refl _) x2
  replace x3 := cell_below hw2' (Nat.le_refl _) x3
  replace y0 := cell_below hw2' (Nat.le_refl _) y0
  replace y1 := cell_below hw2' (Nat.le_refl _) y1
  replace y2 := cell_below hw2' (Nat.le_refl _) y2
  replace hw := below_on hw hw2'
  clear hw2' x1
  have KL := hide (fun w' (hB : Below w2.heap.size w2 w') => And.intro (cell_below hB (Nat.le_refl _) x2) (And.intro (cell_below hB (Nat.le_refl _) y0) (And.intro (cell_below hB (Nat.le_refl _) y1) (And.intro (cell_below hB (Nat.le_refl _) y2) hB))))
  go_wp2
  go_region_held (fun w' => w'.cell? ⟨w.heap.size, 2, none⟩ = some (.int .i64 b) ∧ w'.cell? ⟨w.heap.size + 1, 0, none⟩ = some (.slice ra rn rc) ∧ w'.cell? ⟨w.heap.size + 1, 1, none⟩ = some (.slice wa wn wc) ∧ w'.cell? ⟨w.heap.size + 1, 2, none⟩ = some (.slice ca cn cc) ∧ Below w2.heap.size w2 w') (first | (refine KL.out _ ?_; exact (Below.refl _ _).drew) | (refine KL.out _ (below_on ?_ hw3); exact (Below.refl _ _).drew))
    (first | (go_at_call 183; refine (roperand_114 _ _ _ _ _ _ _ _ _ _ _).mono ?_; rintro e w3 ⟨rfl, hw3⟩))
  have hw3' : Below w2.heap.size w2 w3 := below_on (Below.refl _ _).drew hw3
  clear KL hw3
  replace x2 := cell_below hw3' (Nat.le_refl _) x2
  replace x3 := cell_below hw3' (Nat.le_refl _) x3
  replace y0 := cell_below hw3' (Nat.le_refl _) y0
  replace y1 := cell_below hw3' (Nat.le_refl _) y1
  replace y2 := cell_below hw3' (Nat.le_refl _) y2
  replace hw := below_on hw hw3'
  clear hw3'
  have KL := hide (fun w' (hB : Below w3.heap.size w3 w') => And.intro (cell_below hB (Nat.le_refl _) x3) (And.intro (cell_below hB (Nat.le_refl _) y0) (And.intro (cell_below hB (Nat.le_refl _) y1) (And.intro (cell_below hB (Nat.le_refl _) y2) hB))))
  go_wp2
  go_region_held (fun w' => w'.cell? ⟨w.heap.size, 3, none⟩ = some (.int .i64 c) ∧ w'.cell? ⟨w.heap.size + 1, 0, none⟩ = some (.slice ra rn rc) ∧ w'.cell? ⟨w.heap.size + 1, 1, none⟩ = some (.slice wa wn wc) ∧ w'.cell? ⟨w.heap.size + 1, 2, none⟩ = some (.slice ca cn cc) ∧ Below w3.heap.size w3 w') (first | (refine KL.out _ ?_; exact (Below.refl _ _).drew) | (refine KL.out _ (below_on ?_ hw4); exact (Below.refl _ _).drew))
    (first | (go_at_call 183; refine (roperand_114 _ _ _ _ _ _ _ _ _ _ _).mono ?_; rintro e w4 ⟨rfl, hw4⟩))
  have hw4' : Below w.heap.size w w4 := below_on hw (below_on (Below.refl _ _).drew hw4)
  clear KL hw4 hw x2 x3 y0 y1 y2
  generalize bel a 6 = p0 at *
  generalize bel b 6 = p1 at *
  generalize bel c 6 = p2 at *
  cases p0 <;> cases p1
  all_goals
    go_wp2
    go_ret
    exact ⟨ret_bool (by rw [HB.out]; rfl), hw4'⟩

set_option maxHeartbeats 1000000 in
theorem rSound_6 (a b c : Int) (ra wa ca : Option Addr) (rn rc wn wc cn cc : Nat) (w : World) :
    Calls Tryz.prog 155 #[.agg #[.int .i64 6, .int .i64 a, .int .i64 b, .int .i64 c], .agg #[.slice ra rn rc, .slice wa wn wc, .slice ca cn cc]] w fun e w' => e = .returned (.bool (soundB ⟨6, a, b, c⟩ rn wn)) ∧ Below w.heap.size w w' := by
  have HB := hide (by simp [soundB, Bool.and_assoc] : soundB ⟨6, a, b, c⟩ rn wn = (bel a 6 && (bel b rn && (c == 0))))
  go_enter Tryz.func155, Tryz.ntmps155
  go_wp2_with fail
  refine (rshape_6 _).mono ?_
  rintro e w1 ⟨rfl, hw1⟩
  have cx := fun (o : Nat) (v : Value) (h : (w.alloc (Obj.cells #[.int .i64 6, .int .i64 a, .int .i64 b, .int .i64 c] 114)).cell? ⟨w.heap.size, o, none⟩ = some v) => cell_below hw1 (Nat.le_refl _) (cell_below (below_alloc1 _ _) (Nat.le_refl _) h)
  have c1 := (bcell hw1).1
  have x1 : w1.cell? ⟨w.heap.size, 1, none⟩ = some (.int .i64 a) := cx 1 _ (by simp)
  have x2 : w1.cell? ⟨w.heap.size, 2, none⟩ = some (.int .i64 b) := cx 2 _ (by simp)
  have x3 : w1.cell? ⟨w.heap.size, 3, none⟩ = some (.int .i64 c) := cx 3 _ (by simp)
  have y0 : w1.cell? ⟨w.heap.size + 1, 0, none⟩ = some (.slice ra rn rc) := by rw [c1 _ _ (by simp)]; simp
  have y1 : w1.cell? ⟨w.heap.size + 1, 1, none⟩ = some (.slice wa wn wc) := by rw [c1 _ _ (by simp)]; simp
  have y2 : w1.cell? ⟨w.heap.size + 1, 2, none⟩ = some (.slice ca cn cc) := by rw [c1 _ _ (by simp)]; simp
  have hw := below_alloc (below_alloc hw1)
  clear c1 hw1 cx
  have KL := hide (fun w' (hB : Below w1.heap.size w1 w') => And.intro (cell_below hB (Nat.le_refl _) x1) (And.intro (cell_below hB (Nat.le_refl _) y0) (And.intro (cell_below hB (Nat.le_refl _) y1) (And.intro (cell_below hB (Nat.le_refl _) y2) hB))))
  go_wp2
  go_region_held (fun w' => w'.cell? ⟨w.heap.size, 1, none⟩ = some (.int .i64 a) ∧ w'.cell? ⟨w.heap.size + 1, 0, none⟩ = some (.slice ra rn rc) ∧ w'.cell? ⟨w.heap.size + 1, 1, none⟩ = some (.slice wa wn wc) ∧ w'.cell? ⟨w.heap.size + 1, 2, none⟩ = some (.slice ca cn cc) ∧ Below w1.heap.size w1 w') (first | (refine KL.out _ ?_; exact (Below.refl _ _).drew) | (refine KL.out _ (below_on ?_ hw2); exact (Below.refl _ _).drew))
    (first | (go_at_call 183; refine (roperand_114 _ _ _ _ _ _ _ _ _ _ _).mono ?_; rintro e w2 ⟨rfl, hw2⟩))
  have hw2' : Below w1.heap.size w1 w2 := below_on (Below.refl _ _).drew hw2
  clear KL hw2
  replace x2 := cell_below hw2' (Nat.le_refl _) x2
  replace x3 := cell_below hw2' (Nat.le_refl _) x3
  replace y0 := cell_below hw2' (Nat.le_refl _) y0
  replace y1 := cell_below hw2' (Nat.le_refl _) y1
  replace y2 := cell_below hw2' (Nat.le_refl _) y2
  replace hw := below_on hw hw2'
  clear hw2' x1
  have KL := hide (fun w' (hB : Below w2.heap.size w2 w') => And.intro (cell_below hB (Nat.le_refl _) x2) (And.intro (cell_below hB (Nat.le_refl _) y0) (And.intro (cell_below hB (Nat.le_refl _) y1) (And.intro (cell_below hB (Nat.le_refl _) y2) hB))))
  go_wp2
  go_region_held (fun w' => w'.cell? ⟨w.heap.size, 2, none⟩ = some (.int .i64 b) ∧ w'.cell? ⟨w.heap.size + 1, 0, none⟩ = some (.slice ra rn rc) ∧ w'.cell? ⟨w.heap.size + 1, 1, none⟩ = some (.slice wa wn wc) ∧ w'.cell? ⟨w.heap.size + 1, 2, none⟩ = some (.slice ca cn cc) ∧ Below w2.heap.size w2 w') (first | (refine KL.out _ ?_; exact (Below.refl _ _).drew) | (refine KL.out _ (below_on ?_ hw3); exact (Below.refl _ _).drew))
    (first | (go_at_call 183; refine (roperand_105 _ _ _ _ _ _ _ _ _ _ _).mono ?_; rintro e w3 ⟨rfl, hw3⟩))
  have hw3' : Below w2.heap.size w2 w3 := below_on (Below.refl _ _).drew hw3
  clear KL hw3
  replace x2 := cell_below hw3' (Nat.le_refl _) x2
  replace x3 := cell_below hw3' (Nat.le_refl _) x3
  replace y0 := cell_below hw3' (Nat.le_refl _) y0
  replace y1 := cell_below hw3' (Nat.le_refl _) y1
  replace y2 := cell_below hw3' (Nat.le_refl _) y2
  replace hw := below_on hw hw3'
  clear hw3'
  have KL := hide (fun w' (hB : Below w3.heap.size w3 w') => And.intro (cell_below hB (Nat.le_refl _) x3) (And.intro (cell_below hB (Nat.le_refl _) y0) (And.intro (cell_below hB (Nat.le_refl _) y1) (And.intro (cell_below hB (Nat.le_refl _) y2) hB))))
  go_wp2
  go_region_held (fun w' => w'.cell? ⟨w.heap.size, 3, none⟩ = some (.int .i64 c) ∧ w'.cell? ⟨w.heap.size + 1, 0, none⟩ = some (.slice ra rn rc) ∧ w'.cell? ⟨w.heap.size + 1, 1, none⟩ = some (.slice wa wn wc) ∧ w'.cell? ⟨w.heap.size + 1, 2, none⟩ = some (.slice ca cn cc) ∧ Below w3.heap.size w3 w') (first | (refine KL.out _ ?_; exact (Below.refl _ _).drew) | (refine KL.out _ (below_on ?_ hw4); exact (Below.refl _ _).drew))
    (first | (go_at_call 183; refine (roperand_45 _ _ _ _ _ _ _ _ _ _ _).mono ?_; rintro e w4 ⟨rfl, hw4⟩))
  have hw4' : Below w.heap.size w w4 := below_on hw (below_on (Below.refl _ _).drew hw4)
  clear KL hw4 hw x2 x3 y0 y1 y2
  generalize bel a 6 = p0 at *
  generalize bel b rn = p1 at *
  generalize (c == 0) = p2 at *
  cases p0 <;> cases p1
  all_goals
    go_wp2
    go_ret
    exact ⟨ret_bool (by rw [HB.out]; rfl), hw4'⟩

set_option maxHeartbeats 1000000 in
theorem rSound_7 (a b c : Int) (ra wa ca : Option Addr) (rn rc wn wc cn cc : Nat) (w : World) :
    Calls Tryz.prog 155 #[.agg #[.int .i64 7, .int .i64 a, .int .i64 b, .int .i64 c], .agg #[.slice ra rn rc, .slice wa wn wc, .slice ca cn cc]] w fun e w' => e = .returned (.bool (soundB ⟨7, a, b, c⟩ rn wn)) ∧ Below w.heap.size w w' := by
  have HB := hide (by simp [soundB, Bool.and_assoc] : soundB ⟨7, a, b, c⟩ rn wn = (bel a 6 && (bel b rn && (c == 0))))
  go_enter Tryz.func155, Tryz.ntmps155
  go_wp2_with fail
  refine (rshape_7 _).mono ?_
  rintro e w1 ⟨rfl, hw1⟩
  have cx := fun (o : Nat) (v : Value) (h : (w.alloc (Obj.cells #[.int .i64 7, .int .i64 a, .int .i64 b, .int .i64 c] 114)).cell? ⟨w.heap.size, o, none⟩ = some v) => cell_below hw1 (Nat.le_refl _) (cell_below (below_alloc1 _ _) (Nat.le_refl _) h)
  have c1 := (bcell hw1).1
  have x1 : w1.cell? ⟨w.heap.size, 1, none⟩ = some (.int .i64 a) := cx 1 _ (by simp)
  have x2 : w1.cell? ⟨w.heap.size, 2, none⟩ = some (.int .i64 b) := cx 2 _ (by simp)
  have x3 : w1.cell? ⟨w.heap.size, 3, none⟩ = some (.int .i64 c) := cx 3 _ (by simp)
  have y0 : w1.cell? ⟨w.heap.size + 1, 0, none⟩ = some (.slice ra rn rc) := by rw [c1 _ _ (by simp)]; simp
  have y1 : w1.cell? ⟨w.heap.size + 1, 1, none⟩ = some (.slice wa wn wc) := by rw [c1 _ _ (by simp)]; simp
  have y2 : w1.cell? ⟨w.heap.size + 1, 2, none⟩ = some (.slice ca cn cc) := by rw [c1 _ _ (by simp)]; simp
  have hw := below_alloc (below_alloc hw1)
  clear c1 hw1 cx
  have KL := hide (fun w' (hB : Below w1.heap.size w1 w') => And.intro (cell_below hB (Nat.le_refl _) x1) (And.intro (cell_below hB (Nat.le_refl _) y0) (And.intro (cell_below hB (Nat.le_refl _) y1) (And.intro (cell_below hB (Nat.le_refl _) y2) hB))))
  go_wp2
  go_region_held (fun w' => w'.cell? ⟨w.heap.size, 1, none⟩ = some (.int .i64 a) ∧ w'.cell? ⟨w.heap.size + 1, 0, none⟩ = some (.slice ra rn rc) ∧ w'.cell? ⟨w.heap.size + 1, 1, none⟩ = some (.slice wa wn wc) ∧ w'.cell? ⟨w.heap.size + 1, 2, none⟩ = some (.slice ca cn cc) ∧ Below w1.heap.size w1 w') (first | (refine KL.out _ ?_; exact (Below.refl _ _).drew) | (refine KL.out _ (below_on ?_ hw2); exact (Below.refl _ _).drew))
    (first | (go_at_call 183; refine (roperand_114 _ _ _ _ _ _ _ _ _ _ _).mono ?_; rintro e w2 ⟨rfl, hw2⟩))
  have hw2' : Below w1.heap.size w1 w2 := below_on (Below.refl _ _).drew hw2
  clear KL hw2
  replace x2 := cell_below hw2' (Nat.le_refl _) x2
  replace x3 := cell_below hw2' (Nat.le_refl _) x3
  replace y0 := cell_below hw2' (Nat.le_refl _) y0
  replace y1 := cell_below hw2' (Nat.le_refl _) y1
  replace y2 := cell_below hw2' (Nat.le_refl _) y2
  replace hw := below_on hw hw2'
  clear hw2' x1
  have KL := hide (fun w' (hB : Below w2.heap.size w2 w') => And.intro (cell_below hB (Nat.le_refl _) x2) (And.intro (cell_below hB (Nat.le_refl _) y0) (And.intro (cell_below hB (Nat.le_refl _) y1) (And.intro (cell_below hB (Nat.le_refl _) y2) hB))))
  go_wp2
  go_region_held (fun w' => w'.cell? ⟨w.heap.size, 2, none⟩ = some (.int .i64 b) ∧ w'.cell? ⟨w.heap.size + 1, 0, none⟩ = some (.slice ra rn rc) ∧ w'.cell? ⟨w.heap.size + 1, 1, none⟩ = some (.slice wa wn wc) ∧ w'.cell? ⟨w.heap.size + 1, 2, none⟩ = some (.slice ca cn cc) ∧ Below w2.heap.size w2 w') (first | (refine KL.out _ ?_; exact (Below.refl _ _).drew) | (refine KL.out _ (below_on ?_ hw3); exact (Below.refl _ _).drew))
    (first | (go_at_call 183; refine (roperand_105 _ _ _ _ _ _ _ _ _ _ _).mono ?_; rintro e w3 ⟨rfl, hw3⟩))
  have hw3' : Below w2.heap.size w2 w3 := below_on (Below.refl _ _).drew hw3
  clear KL hw3
  replace x2 := cell_below hw3' (Nat.le_refl _) x2
  replace x3 := cell_below hw3' (Nat.le_refl _) x3
  replace y0 := cell_below hw3' (Nat.le_refl _) y0
  replace y1 := cell_below hw3' (Nat.le_refl _) y1
  replace y2 := cell_below hw3' (Nat.le_refl _) y2
  replace hw := below_on hw hw3'
  clear hw3'
  have KL := hide (fun w' (hB : Below w3.heap.size w3 w') => And.intro (cell_below hB (Nat.le_refl _) x3) (And.intro (cell_below hB (Nat.le_refl _) y0) (And.intro (cell_below hB (Nat.le_refl _) y1) (And.intro (cell_below hB (Nat.le_refl _) y2) hB))))
  go_wp2
  go_region_held (fun w' => w'.cell? ⟨w.heap.size, 3, none⟩ = some (.int .i64 c) ∧ w'.cell? ⟨w.heap.size + 1, 0, none⟩ = some (.slice ra rn rc) ∧ w'.cell? ⟨w.heap.size + 1, 1, none⟩ = some (.slice wa wn wc) ∧ w'.cell? ⟨w.heap.size + 1, 2, none⟩ = some (.slice ca cn cc) ∧ Below w3.heap.size w3 w') (first | (refine KL.out _ ?_; exact (Below.refl _ _).drew) | (refine KL.out _ (below_on ?_ hw4); exact (Below.refl _ _).drew))
    (first | (go_at_call 183; refine (roperand_45 _ _ _ _ _ _ _ _ _ _ _).mono ?_; rintro e w4 ⟨rfl, hw4⟩))
  have hw4' : Below w.heap.size w w4 := below_on hw (below_on (Below.refl _ _).drew hw4)
  clear KL hw4 hw x2 x3 y0 y1 y2
  generalize bel a 6 = p0 at *
  generalize bel b rn = p1 at *
  generalize (c == 0) = p2 at *
  cases p0 <;> cases p1
  all_goals
    go_wp2
    go_ret
    exact ⟨ret_bool (by rw [HB.out]; rfl), hw4'⟩

set_option maxHeartbeats 1000000 in
theorem rSound_8 (a b c : Int) (ra wa ca : Option Addr) (rn rc wn wc cn cc : Nat) (w : World) :
    Calls Tryz.prog 155 #[.agg #[.int .i64 8, .int .i64 a, .int .i64 b, .int .i64 c], .agg #[.slice ra rn rc, .slice wa wn wc, .slice ca cn cc]] w fun e w' => e = .returned (.bool (soundB ⟨8, a, b, c⟩ rn wn)) ∧ Below w.heap.size w w' := by
  have HB := hide (by simp [soundB, Bool.and_assoc] : soundB ⟨8, a, b, c⟩ rn wn = (bel a wn && (bel b 6 && (c == 0))))
  go_enter Tryz.func155, Tryz.ntmps155
  go_wp2_with fail
  refine (rshape_8 _).mono ?_
  rintro e w1 ⟨rfl, hw1⟩
  have cx := fun (o : Nat) (v : Value) (h : (w.alloc (Obj.cells #[.int .i64 8, .int .i64 a, .int .i64 b, .int .i64 c] 114)).cell? ⟨w.heap.size, o, none⟩ = some v) => cell_below hw1 (Nat.le_refl _) (cell_below (below_alloc1 _ _) (Nat.le_refl _) h)
  have c1 := (bcell hw1).1
  have x1 : w1.cell? ⟨w.heap.size, 1, none⟩ = some (.int .i64 a) := cx 1 _ (by simp)
  have x2 : w1.cell? ⟨w.heap.size, 2, none⟩ = some (.int .i64 b) := cx 2 _ (by simp)
  have x3 : w1.cell? ⟨w.heap.size, 3, none⟩ = some (.int .i64 c) := cx 3 _ (by simp)
  have y0 : w1.cell? ⟨w.heap.size + 1, 0, none⟩ = some (.slice ra rn rc) := by rw [c1 _ _ (by simp)]; simp
  have y1 : w1.cell? ⟨w.heap.size + 1, 1, none⟩ = some (.slice wa wn wc) := by rw [c1 _ _ (by simp)]; simp
  have y2 : w1.cell? ⟨w.heap.size + 1, 2, none⟩ = some (.slice ca cn cc) := by rw [c1 _ _ (by simp)]; simp
  have hw := below_alloc (below_alloc hw1)
  clear c1 hw1 cx
  have KL := hide (fun w' (hB : Below w1.heap.size w1 w') => And.intro (cell_below hB (Nat.le_refl _) x1) (And.intro (cell_below hB (Nat.le_refl _) y0) (And.intro (cell_below hB (Nat.le_refl _) y1) (And.intro (cell_below hB (Nat.le_refl _) y2) hB))))
  go_wp2
  go_region_held (fun w' => w'.cell? ⟨w.heap.size, 1, none⟩ = some (.int .i64 a) ∧ w'.cell? ⟨w.heap.size + 1, 0, none⟩ = some (.slice ra rn rc) ∧ w'.cell? ⟨w.heap.size + 1, 1, none⟩ = some (.slice wa wn wc) ∧ w'.cell? ⟨w.heap.size + 1, 2, none⟩ = some (.slice ca cn cc) ∧ Below w1.heap.size w1 w') (first | (refine KL.out _ ?_; exact (Below.refl _ _).drew) | (refine KL.out _ (below_on ?_ hw2); exact (Below.refl _ _).drew))
    (first | (go_at_call 183; refine (roperand_111 _ _ _ _ _ _ _ _ _ _ _).mono ?_; rintro e w2 ⟨rfl, hw2⟩))
  have hw2' : Below w1.heap.size w1 w2 := below_on (Below.refl _ _).drew hw2
  clear KL hw2
  replace x2 := cell_below hw2' (Nat.le_refl _) x2
  replace x3 := cell_below hw2' (Nat.le_refl _) x3
  replace y0 := cell_below hw2' (Nat.le_refl _) y0
  replace y1 := cell_below hw2' (Nat.le_refl _) y1
  replace y2 := cell_below hw2' (Nat.le_refl _) y2
  replace hw := below_on hw hw2'
  clear hw2' x1
  have KL := hide (fun w' (hB : Below w2.heap.size w2 w') => And.intro (cell_below hB (Nat.le_refl _) x2) (And.intro (cell_below hB (Nat.le_refl _) y0) (And.intro (cell_below hB (Nat.le_refl _) y1) (And.intro (cell_below hB (Nat.le_refl _) y2) hB))))
  go_wp2
  go_region_held (fun w' => w'.cell? ⟨w.heap.size, 2, none⟩ = some (.int .i64 b) ∧ w'.cell? ⟨w.heap.size + 1, 0, none⟩ = some (.slice ra rn rc) ∧ w'.cell? ⟨w.heap.size + 1, 1, none⟩ = some (.slice wa wn wc) ∧ w'.cell? ⟨w.heap.size + 1, 2, none⟩ = some (.slice ca cn cc) ∧ Below w2.heap.size w2 w') (first | (refine KL.out _ ?_; exact (Below.refl _ _).drew) | (refine KL.out _ (below_on ?_ hw3); exact (Below.refl _ _).drew))
    (first | (go_at_call 183; refine (roperand_114 _ _ _ _ _ _ _ _ _ _ _).mono ?_; rintro e w3 ⟨rfl, hw3⟩))
  have hw3' : Below w2.heap.size w2 w3 := below_on (Below.refl _ _).drew hw3
  clear KL hw3
  replace x2 := cell_below hw3' (Nat.le_refl _) x2
  replace x3 := cell_below hw3' (Nat.le_refl _) x3
  replace y0 := cell_below hw3' (Nat.le_refl _) y0
  replace y1 := cell_below hw3' (Nat.le_refl _) y1
  replace y2 := cell_below hw3' (Nat.le_refl _) y2
  replace hw := below_on hw hw3'
  clear hw3'
  have KL := hide (fun w' (hB : Below w3.heap.size w3 w') => And.intro (cell_below hB (Nat.le_refl _) x3) (And.intro (cell_below hB (Nat.le_refl _) y0) (And.intro (cell_below hB (Nat.le_refl _) y1) (And.intro (cell_below hB (Nat.le_refl _) y2) hB))))
  go_wp2
  go_region_held (fun w' => w'.cell? ⟨w.heap.size, 3, none⟩ = some (.int .i64 c) ∧ w'.cell? ⟨w.heap.size + 1, 0, none⟩ = some (.slice ra rn rc) ∧ w'.cell? ⟨w.heap.size + 1, 1, none⟩ = some (.slice wa wn wc) ∧ w'.cell? ⟨w.heap.size + 1, 2, none⟩ = some (.slice ca cn cc) ∧ Below w3.heap.size w3 w') (first | (refine KL.out _ ?_; exact (Below.refl _ _).drew) | (refine KL.out _ (below_on ?_ hw4); exact (Below.refl _ _).drew))
    (first | (go_at_call 183; refine (roperand_45 _ _ _ _ _ _ _ _ _ _ _).mono ?_; rintro e w4 ⟨rfl, hw4⟩))
  have hw4' : Below w.heap.size w w4 := below_on hw (below_on (Below.refl _ _).drew hw4)
  clear KL hw4 hw x2 x3 y0 y1 y2
  generalize bel a wn = p0 at *
  generalize bel b 6 = p1 at *
  generalize (c == 0) = p2 at *
  cases p0 <;> cases p1
  all_goals
    go_wp2
    go_ret
    exact ⟨ret_bool (by rw [HB.out]; rfl), hw4'⟩

end Go.Proofs.YtlheloogmgmjnaaGreat
