import Derived.Test.YtlheloogmgmjnaaGreatSound
namespace Go.Proofs.YtlheloogmgmjnaaGreat
open Go.RowKit

/-- Is an instruction sound, for so many keys that are read, and written? -/
def soundB (x : Ins) (nr nw : Int) : Bool :=
  if x.op = 1 then bel x.a 6 && x.c == 0
  else if x.op = 2 ∨ x.op = 3 ∨ x.op = 4 ∨ x.op = 5 then bel x.a 6 && bel x.b 6 && bel x.c 6
  else if x.op = 6 ∨ x.op = 7 then bel x.a 6 && bel x.b nr && x.c == 0
  else if x.op = 8 then bel x.a nw && bel x.b 6 && x.c == 0
  else if x.op = 9 then bel x.a nw && x.b == 0 && x.c == 0
  else if x.op = 10 then bel x.a 6 && decide (1 ≤ x.b) && decide (x.b ≤ 30) && x.c == 0
  else if x.op = 11 then x.a == 0 && x.b == 0 && x.c == 0
  else false

set_option maxHeartbeats 1000000 in
theorem isSound_1 (a b c nr nw : Int) (w : World) :
    Calls Tryz.prog 152 #[.agg #[.int .i64 1, .int .i64 a, .int .i64 b, .int .i64 c], .int .i64 nr, .int .i64 nw] w fun e w' => e = .returned (.bool (soundB ⟨1, a, b, c⟩ nr nw)) ∧ Below w.heap.size w w' := by
  have hb : soundB ⟨1, a, b, c⟩ nr nw = (bel a 6 && (c == 0)) := by simp [soundB]
  rcases Bool.eq_false_or_eq_true (bel a 6) with g0 | g0
  rotate_left
  · have HB := hide (by rw [hb]; simp [g0] : soundB ⟨1, a, b, c⟩ nr nw = false)
    clear hb
    go_enter Tryz.func152, Tryz.ntmps152
    go_wp2_with (first | (go_at_call 181; refine (isRegister_any _ _).mono ?_; rintro e w' ⟨rfl, rfl⟩) | (go_at_call 177; refine (sbelow_any _ _ _).mono ?_; rintro e w' ⟨rfl, rfl⟩))
    go_ret
    exact ⟨ret_bool HB.out.symm, (Below.refl _ _).alloc (Nat.le_refl _) _⟩
  · have HB := hide (by rw [hb]; simp [g0] : soundB ⟨1, a, b, c⟩ nr nw = (c == 0))
    clear hb
    go_enter Tryz.func152, Tryz.ntmps152
    go_wp2_with (first | (go_at_call 181; refine (isRegister_any _ _).mono ?_; rintro e w' ⟨rfl, rfl⟩) | (go_at_call 177; refine (sbelow_any _ _ _).mono ?_; rintro e w' ⟨rfl, rfl⟩))
    go_ret
    exact ⟨ret_bool HB.out.symm, (Below.refl _ _).alloc (Nat.le_refl _) _⟩

set_option maxHeartbeats 1000000 in
theorem isSound_2 (a b c nr nw : Int) (w : World) :
    Calls Tryz.prog 152 #[.agg #[.int .i64 2, .int .i64 a, .int .i64 b, .int .i64 c], .int .i64 nr, .int .i64 nw] w fun e w' => e = .returned (.bool (soundB ⟨2, a, b, c⟩ nr nw)) ∧ Below w.heap.size w w' := by
  have hb : soundB ⟨2, a, b, c⟩ nr nw = (bel a 6 && bel b 6 && bel c 6) := by simp [soundB]
  rcases Bool.eq_false_or_eq_true (bel a 6) with g0 | g0
  rotate_left
  · have HB := hide (by rw [hb]; simp [g0] : soundB ⟨2, a, b, c⟩ nr nw = false)
    clear hb
    go_enter Tryz.func152, Tryz.ntmps152
    go_wp2_with (first | (go_at_call 181; refine (isRegister_any _ _).mono ?_; rintro e w' ⟨rfl, rfl⟩) | (go_at_call 177; refine (sbelow_any _ _ _).mono ?_; rintro e w' ⟨rfl, rfl⟩))
    go_ret
    exact ⟨ret_bool HB.out.symm, (Below.refl _ _).alloc (Nat.le_refl _) _⟩
  rcases Bool.eq_false_or_eq_true (bel b 6) with g1 | g1
  rotate_left
  · have HB := hide (by rw [hb]; simp [g0, g1] : soundB ⟨2, a, b, c⟩ nr nw = false)
    clear hb
    go_enter Tryz.func152, Tryz.ntmps152
    go_wp2_with (first | (go_at_call 181; refine (isRegister_any _ _).mono ?_; rintro e w' ⟨rfl, rfl⟩) | (go_at_call 177; refine (sbelow_any _ _ _).mono ?_; rintro e w' ⟨rfl, rfl⟩))
    go_ret
    exact ⟨ret_bool HB.out.symm, (Below.refl _ _).alloc (Nat.le_refl _) _⟩
  · have HB := hide (by rw [hb]; simp [g0, g1] : soundB ⟨2, a, b, c⟩ nr nw = bel c 6)
    clear hb
    go_enter Tryz.func152, Tryz.ntmps152
    go_wp2_with (first | (go_at_call 181; refine (isRegister_any _ _).mono ?_; rintro e w' ⟨rfl, rfl⟩) | (go_at_call 177; refine (sbelow_any _ _ _).mono ?_; rintro e w' ⟨rfl, rfl⟩))
    go_ret
    exact ⟨ret_bool HB.out.symm, (Below.refl _ _).alloc (Nat.le_refl _) _⟩

set_option maxHeartbeats 1000000 in
theorem isSound_3 (a b c nr nw : Int) (w : World) :
    Calls Tryz.prog 152 #[.agg #[.int .i64 3, .int .i64 a, .int .i64 b, .int .i64 c], .int .i64 nr, .int .i64 nw] w fun e w' => e = .returned (.bool (soundB ⟨3, a, b, c⟩ nr nw)) ∧ Below w.heap.size w w' := by
  have hb : soundB ⟨3, a, b, c⟩ nr nw = (bel a 6 && bel b 6 && bel c 6) := by simp [soundB]
  rcases Bool.eq_false_or_eq_true (bel a 6) with g0 | g0
  rotate_left
  · have HB := hide (by rw [hb]; simp [g0] : soundB ⟨3, a, b, c⟩ nr nw = false)
    clear hb
    go_enter Tryz.func152, Tryz.ntmps152
    go_wp2_with (first | (go_at_call 181; refine (isRegister_any _ _).mono ?_; rintro e w' ⟨rfl, rfl⟩) | (go_at_call 177; refine (sbelow_any _ _ _).mono ?_; rintro e w' ⟨rfl, rfl⟩))
    go_ret
    exact ⟨ret_bool HB.out.symm, (Below.refl _ _).alloc (Nat.le_refl _) _⟩
  rcases Bool.eq_false_or_eq_true (bel b 6) with g1 | g1
  rotate_left
  · have HB := hide (by rw [hb]; simp [g0, g1] : soundB ⟨3, a, b, c⟩ nr nw = false)
    clear hb
    go_enter Tryz.func152, Tryz.ntmps152
    go_wp2_with (first | (go_at_call 181; refine (isRegister_any _ _).mono ?_; rintro e w' ⟨rfl, rfl⟩) | (go_at_call 177; refine (sbelow_any _ _ _).mono ?_; rintro e w' ⟨rfl, rfl⟩))
    go_ret
    exact ⟨ret_bool HB.out.symm, (Below.refl _ _).alloc (Nat.le_refl _) _⟩
  · have HB := hide (by rw [hb]; simp [g0, g1] : soundB ⟨3, a, b, c⟩ nr nw = bel c 6)
    clear hb
    go_enter Tryz.func152, Tryz.ntmps152
    go_wp2_with (first | (go_at_call 181; refine (isRegister_any _ _).mono ?_; rintro e w' ⟨rfl, rfl⟩) | (go_at_call 177; refine (sbelow_any _ _ _).mono ?_; rintro e w' ⟨rfl, rfl⟩))
    go_ret
    exact ⟨ret_bool HB.out.symm, (Below.refl _ _).alloc (Nat.le_refl _) _⟩

set_option maxHeartbeats 1000000 in
theorem isSound_4 (a b c nr nw : Int) (w : World) :
    Calls Tryz.prog 152 #[.agg #[.int .i64 4, .int .i64 a, .int .i64 b, .int .i64 c], .int .i64 nr, .int .i64 nw] w fun e w' => e = .returned (.bool (soundB ⟨4, a, b, c⟩ nr nw)) ∧ Below w.heap.size w w' := by
  have hb : soundB ⟨4, a, b, c⟩ nr nw = (bel a 6 && bel b 6 && bel c 6) := by simp [soundB]
  rcases Bool.eq_false_or_eq_true (bel a 6) with g0 | g0
  rotate_left
  · have HB := hide (by rw [hb]; simp [g0] : soundB ⟨4, a, b, c⟩ nr nw = false)
    clear hb
    go_enter Tryz.func152, Tryz.ntmps152
    go_wp2_with (first | (go_at_call 181; refine (isRegister_any _ _).mono ?_; rintro e w' ⟨rfl, rfl⟩) | (go_at_call 177; refine (sbelow_any _ _ _).mono ?_; rintro e w' ⟨rfl, rfl⟩))
    go_ret
    exact ⟨ret_bool HB.out.symm, (Below.refl _ _).alloc (Nat.le_refl _) _⟩
  rcases Bool.eq_false_or_eq_true (bel b 6) with g1 | g1
  rotate_left
  · have HB := hide (by rw [hb]; simp [g0, g1] : soundB ⟨4, a, b, c⟩ nr nw = false)
    clear hb
    go_enter Tryz.func152, Tryz.ntmps152
    go_wp2_with (first | (go_at_call 181; refine (isRegister_any _ _).mono ?_; rintro e w' ⟨rfl, rfl⟩) | (go_at_call 177; refine (sbelow_any _ _ _).mono ?_; rintro e w' ⟨rfl, rfl⟩))
    go_ret
    exact ⟨ret_bool HB.out.symm, (Below.refl _ _).alloc (Nat.le_refl _) _⟩
  · have HB := hide (by rw [hb]; simp [g0, g1] : soundB ⟨4, a, b, c⟩ nr nw = bel c 6)
    clear hb
    go_enter Tryz.func152, Tryz.ntmps152
    go_wp2_with (first | (go_at_call 181; refine (isRegister_any _ _).mono ?_; rintro e w' ⟨rfl, rfl⟩) | (go_at_call 177; refine (sbelow_any _ _ _).mono ?_; rintro e w' ⟨rfl, rfl⟩))
    go_ret
    exact ⟨ret_bool HB.out.symm, (Below.refl _ _).alloc (Nat.le_refl _) _⟩

set_option maxHeartbeats 1000000 in
theorem isSound_5 (a b c nr nw : Int) (w : World) :
    Calls Tryz.prog 152 #[.agg #[.int .i64 5, .int .i64 a, .int .i64 b, .int .i64 c], .int .i64 nr, .int .i64 nw] w fun e w' => e = .returned (.bool (soundB ⟨5, a, b, c⟩ nr nw)) ∧ Below w.heap.size w w' := by
  have hb : soundB ⟨5, a, b, c⟩ nr nw = (bel a 6 && bel b 6 && bel c 6) := by simp [soundB]
  rcases Bool.eq_false_or_eq_true (bel a 6) with g0 | g0
  rotate_left
  · have HB := hide (by rw [hb]; simp [g0] : soundB ⟨5, a, b, c⟩ nr nw = false)
    clear hb
    go_enter Tryz.func152, Tryz.ntmps152
    go_wp2_with (first | (go_at_call 181; refine (isRegister_any _ _).mono ?_; rintro e w' ⟨rfl, rfl⟩) | (go_at_call 177; refine (sbelow_any _ _ _).mono ?_; rintro e w' ⟨rfl, rfl⟩))
    go_ret
    exact ⟨ret_bool HB.out.symm, (Below.refl _ _).alloc (Nat.le_refl _) _⟩
  rcases Bool.eq_false_or_eq_true (bel b 6) with g1 | g1
  rotate_left
  · have HB := hide (by rw [hb]; simp [g0, g1] : soundB ⟨5, a, b, c⟩ nr nw = false)
    clear hb
    go_enter Tryz.func152, Tryz.ntmps152
    go_wp2_with (first | (go_at_call 181; refine (isRegister_any _ _).mono ?_; rintro e w' ⟨rfl, rfl⟩) | (go_at_call 177; refine (sbelow_any _ _ _).mono ?_; rintro e w' ⟨rfl, rfl⟩))
    go_ret
    exact ⟨ret_bool HB.out.symm, (Below.refl _ _).alloc (Nat.le_refl _) _⟩
  · have HB := hide (by rw [hb]; simp [g0, g1] : soundB ⟨5, a, b, c⟩ nr nw = bel c 6)
    clear hb
    go_enter Tryz.func152, Tryz.ntmps152
    go_wp2_with (first | (go_at_call 181; refine (isRegister_any _ _).mono ?_; rintro e w' ⟨rfl, rfl⟩) | (go_at_call 177; refine (sbelow_any _ _ _).mono ?_; rintro e w' ⟨rfl, rfl⟩))
    go_ret
    exact ⟨ret_bool HB.out.symm, (Below.refl _ _).alloc (Nat.le_refl _) _⟩

set_option maxHeartbeats 1000000 in
theorem isSound_6 (a b c nr nw : Int) (w : World) :
    Calls Tryz.prog 152 #[.agg #[.int .i64 6, .int .i64 a, .int .i64 b, .int .i64 c], .int .i64 nr, .int .i64 nw] w fun e w' => e = .returned (.bool (soundB ⟨6, a, b, c⟩ nr nw)) ∧ Below w.heap.size w w' := by
  have hb : soundB ⟨6, a, b, c⟩ nr nw = (bel a 6 && bel b nr && (c == 0)) := by simp [soundB]
  rcases Bool.eq_false_or_eq_true (bel a 6) with g0 | g0
  rotate_left
  · have HB := hide (by rw [hb]; simp [g0] : soundB ⟨6, a, b, c⟩ nr nw = false)
    clear hb
    go_enter Tryz.func152, Tryz.ntmps152
    go_wp2_with (first | (go_at_call 181; refine (isRegister_any _ _).mono ?_; rintro e w' ⟨rfl, rfl⟩) | (go_at_call 177; refine (sbelow_any _ _ _).mono ?_; rintro e w' ⟨rfl, rfl⟩))
    go_ret
    exact ⟨ret_bool HB.out.symm, (Below.refl _ _).alloc (Nat.le_refl _) _⟩
  rcases Bool.eq_false_or_eq_true (bel b nr) with g1 | g1
  rotate_left
  · have HB := hide (by rw [hb]; simp [g0, g1] : soundB ⟨6, a, b, c⟩ nr nw = false)
    clear hb
    go_enter Tryz.func152, Tryz.ntmps152
    go_wp2_with (first | (go_at_call 181; refine (isRegister_any _ _).mono ?_; rintro e w' ⟨rfl, rfl⟩) | (go_at_call 177; refine (sbelow_any _ _ _).mono ?_; rintro e w' ⟨rfl, rfl⟩))
    go_ret
    exact ⟨ret_bool HB.out.symm, (Below.refl _ _).alloc (Nat.le_refl _) _⟩
  · have HB := hide (by rw [hb]; simp [g0, g1] : soundB ⟨6, a, b, c⟩ nr nw = (c == 0))
    clear hb
    go_enter Tryz.func152, Tryz.ntmps152
    go_wp2_with (first | (go_at_call 181; refine (isRegister_any _ _).mono ?_; rintro e w' ⟨rfl, rfl⟩) | (go_at_call 177; refine (sbelow_any _ _ _).mono ?_; rintro e w' ⟨rfl, rfl⟩))
    go_ret
    exact ⟨ret_bool HB.out.symm, (Below.refl _ _).alloc (Nat.le_refl _) _⟩

set_option maxHeartbeats 1000000 in
theorem isSound_7 (a b c nr nw : Int) (w : World) :
    Calls Tryz.prog 152 #[.agg #[.int .i64 7, .int .i64 a, .int .i64 b, .int .i64 c], .int .i64 nr, .int .i64 nw] w fun e w' => e = .returned (.bool (soundB ⟨7, a, b, c⟩ nr nw)) ∧ Below w.heap.size w w' := by
  have hb : soundB ⟨7, a, b, c⟩ nr nw = (bel a 6 && bel b nr && (c == 0)) := by simp [soundB]
  rcases Bool.eq_false_or_eq_true (bel a 6) with g0 | g0
  rotate_left
  · have HB := hide (by rw [hb]; simp [g0] : soundB ⟨7, a, b, c⟩ nr nw = false)
    clear hb
    go_enter Tryz.func152, Tryz.ntmps152
    go_wp2_with (first | (go_at_call 181; refine (isRegister_any _ _).mono ?_; rintro e w' ⟨rfl, rfl⟩) | (go_at_call 177; refine (sbelow_any _ _ _).mono ?_; rintro e w' ⟨rfl, rfl⟩))
    go_ret
    exact ⟨ret_bool HB.out.symm, (Below.refl _ _).alloc (Nat.le_refl _) _⟩
  rcases Bool.eq_false_or_eq_true (bel b nr) with g1 | g1
  rotate_left
  · have HB := hide (by rw [hb]; simp [g0, g1] : soundB ⟨7, a, b, c⟩ nr nw = false)
    clear hb
    go_enter Tryz.func152, Tryz.ntmps152
    go_wp2_with (first | (go_at_call 181; refine (isRegister_any _ _).mono ?_; rintro e w' ⟨rfl, rfl⟩) | (go_at_call 177; refine (sbelow_any _ _ _).mono ?_; rintro e w' ⟨rfl, rfl⟩))
    go_ret
    exact ⟨ret_bool HB.out.symm, (Below.refl _ _).alloc (Nat.le_refl _) _⟩
  · have HB := hide (by rw [hb]; simp [g0, g1] : soundB ⟨7, a, b, c⟩ nr nw = (c == 0))
    clear hb
    go_enter Tryz.func152, Tryz.ntmps152
    go_wp2_with (first | (go_at_call 181; refine (isRegister_any _ _).mono ?_; rintro e w' ⟨rfl, rfl⟩) | (go_at_call 177; refine (sbelow_any _ _ _).mono ?_; rintro e w' ⟨rfl, rfl⟩))
    go_ret
    exact ⟨ret_bool HB.out.symm, (Below.refl _ _).alloc (Nat.le_refl _) _⟩

set_option maxHeartbeats 1000000 in
theorem isSound_8 (a b c nr nw : Int) (w : World) :
    Calls Tryz.prog 152 #[.agg #[.int .i64 8, .int .i64 a, .int .i64 b, .int .i64 c], .int .i64 nr, .int .i64 nw] w fun e w' => e = .returned (.bool (soundB ⟨8, a, b, c⟩ nr nw)) ∧ Below w.heap.size w w' := by
  have hb : soundB ⟨8, a, b, c⟩ nr nw = (bel a nw && bel b 6 && (c == 0)) := by simp [soundB]
  rcases Bool.eq_false_or_eq_true (bel a nw) with g0 | g0
  rotate_left
  · have HB := hide (by rw [hb]; simp [g0] : soundB ⟨8, a, b, c⟩ nr nw = false)
    clear hb
    go_enter Tryz.func152, Tryz.ntmps152
    go_wp2_with (first | (go_at_call 181; refine (isRegister_any _ _).mono ?_; rintro e w' ⟨rfl, rfl⟩) | (go_at_call 177; refine (sbelow_any _ _ _).mono ?_; rintro e w' ⟨rfl, rfl⟩))
    go_ret
    exact ⟨ret_bool HB.out.symm, (Below.refl _ _).alloc (Nat.le_refl _) _⟩
  rcases Bool.eq_false_or_eq_true (bel b 6) with g1 | g1
  rotate_left
  · have HB := hide (by rw [hb]; simp [g0, g1] : soundB ⟨8, a, b, c⟩ nr nw = false)
    clear hb
    go_enter Tryz.func152, Tryz.ntmps152
    go_wp2_with (first | (go_at_call 181; refine (isRegister_any _ _).mono ?_; rintro e w' ⟨rfl, rfl⟩) | (go_at_call 177; refine (sbelow_any _ _ _).mono ?_; rintro e w' ⟨rfl, rfl⟩))
    go_ret
    exact ⟨ret_bool HB.out.symm, (Below.refl _ _).alloc (Nat.le_refl _) _⟩
  · have HB := hide (by rw [hb]; simp [g0, g1] : soundB ⟨8, a, b, c⟩ nr nw = (c == 0))
    clear hb
    go_enter Tryz.func152, Tryz.ntmps152
    go_wp2_with (first | (go_at_call 181; refine (isRegister_any _ _).mono ?_; rintro e w' ⟨rfl, rfl⟩) | (go_at_call 177; refine (sbelow_any _ _ _).mono ?_; rintro e w' ⟨rfl, rfl⟩))
    go_ret
    exact ⟨ret_bool HB.out.symm, (Below.refl _ _).alloc (Nat.le_refl _) _⟩

set_option maxHeartbeats 1000000 in
theorem isSound_9 (a b c nr nw : Int) (w : World) :
    Calls Tryz.prog 152 #[.agg #[.int .i64 9, .int .i64 a, .int .i64 b, .int .i64 c], .int .i64 nr, .int .i64 nw] w fun e w' => e = .returned (.bool (soundB ⟨9, a, b, c⟩ nr nw)) ∧ Below w.heap.size w w' := by
  have hb : soundB ⟨9, a, b, c⟩ nr nw = (bel a nw && (b == 0) && (c == 0)) := by simp [soundB]
  rcases Bool.eq_false_or_eq_true (bel a nw) with g0 | g0
  rotate_left
  · have HB := hide (by rw [hb]; simp [g0] : soundB ⟨9, a, b, c⟩ nr nw = false)
    clear hb
    go_enter Tryz.func152, Tryz.ntmps152
    go_wp2_with (first | (go_at_call 181; refine (isRegister_any _ _).mono ?_; rintro e w' ⟨rfl, rfl⟩) | (go_at_call 177; refine (sbelow_any _ _ _).mono ?_; rintro e w' ⟨rfl, rfl⟩))
    go_ret
    exact ⟨ret_bool HB.out.symm, (Below.refl _ _).alloc (Nat.le_refl _) _⟩
  rcases Bool.eq_false_or_eq_true ((b == 0)) with g1 | g1
  rotate_left
  · have HB := hide (by rw [hb]; simp [g0, g1] : soundB ⟨9, a, b, c⟩ nr nw = false)
    clear hb
    go_enter Tryz.func152, Tryz.ntmps152
    go_wp2_with (first | (go_at_call 181; refine (isRegister_any _ _).mono ?_; rintro e w' ⟨rfl, rfl⟩) | (go_at_call 177; refine (sbelow_any _ _ _).mono ?_; rintro e w' ⟨rfl, rfl⟩))
    go_ret
    exact ⟨ret_bool HB.out.symm, (Below.refl _ _).alloc (Nat.le_refl _) _⟩
  · have HB := hide (by rw [hb]; simp [g0, g1] : soundB ⟨9, a, b, c⟩ nr nw = (c == 0))
    clear hb
    go_enter Tryz.func152, Tryz.ntmps152
    go_wp2_with (first | (go_at_call 181; refine (isRegister_any _ _).mono ?_; rintro e w' ⟨rfl, rfl⟩) | (go_at_call 177; refine (sbelow_any _ _ _).mono ?_; rintro e w' ⟨rfl, rfl⟩))
    go_ret
    exact ⟨ret_bool HB.out.symm, (Below.refl _ _).alloc (Nat.le_refl _) _⟩

set_option maxHeartbeats 1000000 in
theorem isSound_10 (a b c nr nw : Int) (w : World) :
    Calls Tryz.prog 152 #[.agg #[.int .i64 10, .int .i64 a, .int .i64 b, .int .i64 c], .int .i64 nr, .int .i64 nw] w fun e w' => e = .returned (.bool (soundB ⟨10, a, b, c⟩ nr nw)) ∧ Below w.heap.size w w' := by
  have hb : soundB ⟨10, a, b, c⟩ nr nw = (bel a 6 && decide (1 ≤ b) && decide (b ≤ 30) && (c == 0)) := by simp [soundB]
  rcases Bool.eq_false_or_eq_true (bel a 6) with g0 | g0
  rotate_left
  · have HB := hide (by rw [hb]; simp [g0] : soundB ⟨10, a, b, c⟩ nr nw = false)
    clear hb
    go_enter Tryz.func152, Tryz.ntmps152
    go_wp2_with (first | (go_at_call 181; refine (isRegister_any _ _).mono ?_; rintro e w' ⟨rfl, rfl⟩) | (go_at_call 177; refine (sbelow_any _ _ _).mono ?_; rintro e w' ⟨rfl, rfl⟩))
    go_ret
    exact ⟨ret_bool HB.out.symm, (Below.refl _ _).alloc (Nat.le_refl _) _⟩
  rcases Bool.eq_false_or_eq_true (decide (1 ≤ b)) with g1 | g1
  rotate_left
  · have HB := hide (by rw [hb]; simp [g0, g1] : soundB ⟨10, a, b, c⟩ nr nw = false)
    clear hb
    go_enter Tryz.func152, Tryz.ntmps152
    go_wp2_with (first | (go_at_call 181; refine (isRegister_any _ _).mono ?_; rintro e w' ⟨rfl, rfl⟩) | (go_at_call 177; refine (sbelow_any _ _ _).mono ?_; rintro e w' ⟨rfl, rfl⟩))
    go_ret
    exact ⟨ret_bool HB.out.symm, (Below.refl _ _).alloc (Nat.le_refl _) _⟩
  rcases Bool.eq_false_or_eq_true (decide (b ≤ 30)) with g2 | g2
  rotate_left
  · have HB := hide (by rw [hb]; simp [g0, g1, g2] : soundB ⟨10, a, b, c⟩ nr nw = false)
    clear hb
    go_enter Tryz.func152, Tryz.ntmps152
    go_wp2_with (first | (go_at_call 181; refine (isRegister_any _ _).mono ?_; rintro e w' ⟨rfl, rfl⟩) | (go_at_call 177; refine (sbelow_any _ _ _).mono ?_; rintro e w' ⟨rfl, rfl⟩))
    go_ret
    exact ⟨ret_bool HB.out.symm, (Below.refl _ _).alloc (Nat.le_refl _) _⟩
  · have HB := hide (by rw [hb]; simp [g0, g1, g2] : soundB ⟨10, a, b, c⟩ nr nw = (c == 0))
    clear hb
    go_enter Tryz.func152, Tryz.ntmps152
    go_wp2_with (first | (go_at_call 181; refine (isRegister_any _ _).mono ?_; rintro e w' ⟨rfl, rfl⟩) | (go_at_call 177; refine (sbelow_any _ _ _).mono ?_; rintro e w' ⟨rfl, rfl⟩))
    go_ret
    exact ⟨ret_bool HB.out.symm, (Below.refl _ _).alloc (Nat.le_refl _) _⟩

set_option maxHeartbeats 1000000 in
theorem isSound_11 (a b c nr nw : Int) (w : World) :
    Calls Tryz.prog 152 #[.agg #[.int .i64 11, .int .i64 a, .int .i64 b, .int .i64 c], .int .i64 nr, .int .i64 nw] w fun e w' => e = .returned (.bool (soundB ⟨11, a, b, c⟩ nr nw)) ∧ Below w.heap.size w w' := by
  have hb : soundB ⟨11, a, b, c⟩ nr nw = ((a == 0) && (b == 0) && (c == 0)) := by simp [soundB]
  rcases Bool.eq_false_or_eq_true ((a == 0)) with g0 | g0
  rotate_left
  · have HB := hide (by rw [hb]; simp [g0] : soundB ⟨11, a, b, c⟩ nr nw = false)
    clear hb
    go_enter Tryz.func152, Tryz.ntmps152
    go_wp2_with (first | (go_at_call 181; refine (isRegister_any _ _).mono ?_; rintro e w' ⟨rfl, rfl⟩) | (go_at_call 177; refine (sbelow_any _ _ _).mono ?_; rintro e w' ⟨rfl, rfl⟩))
    go_ret
    exact ⟨ret_bool HB.out.symm, (Below.refl _ _).alloc (Nat.le_refl _) _⟩
  rcases Bool.eq_false_or_eq_true ((b == 0)) with g1 | g1
  rotate_left
  · have HB := hide (by rw [hb]; simp [g0, g1] : soundB ⟨11, a, b, c⟩ nr nw = false)
    clear hb
    go_enter Tryz.func152, Tryz.ntmps152
    go_wp2_with (first | (go_at_call 181; refine (isRegister_any _ _).mono ?_; rintro e w' ⟨rfl, rfl⟩) | (go_at_call 177; refine (sbelow_any _ _ _).mono ?_; rintro e w' ⟨rfl, rfl⟩))
    go_ret
    exact ⟨ret_bool HB.out.symm, (Below.refl _ _).alloc (Nat.le_refl _) _⟩
  · have HB := hide (by rw [hb]; simp [g0, g1] : soundB ⟨11, a, b, c⟩ nr nw = (c == 0))
    clear hb
    go_enter Tryz.func152, Tryz.ntmps152
    go_wp2_with (first | (go_at_call 181; refine (isRegister_any _ _).mono ?_; rintro e w' ⟨rfl, rfl⟩) | (go_at_call 177; refine (sbelow_any _ _ _).mono ?_; rintro e w' ⟨rfl, rfl⟩))
    go_ret
    exact ⟨ret_bool HB.out.symm, (Below.refl _ _).alloc (Nat.le_refl _) _⟩

set_option maxHeartbeats 1000000 in
theorem isSound_no (op a b c nr nw : Int) (w : World) (h : op < 1 ∨ 11 < op) :
    Calls Tryz.prog 152 #[.agg #[.int .i64 op, .int .i64 a, .int .i64 b, .int .i64 c], .int .i64 nr, .int .i64 nw] w fun e w' => e = .returned (.bool (soundB ⟨op, a, b, c⟩ nr nw)) ∧ Below w.heap.size w w' := by
  have HB : Hid (soundB ⟨op, a, b, c⟩ nr nw = false) := by
    show soundB ⟨op, a, b, c⟩ nr nw = false
    simp only [soundB]
    rw [if_neg (by omega), if_neg (by omega), if_neg (by omega), if_neg (by omega), if_neg (by omega), if_neg (by omega), if_neg (by omega)]
  have e1 : (op == 1) = false := by rw [beq_eq_false_iff_ne]; omega
  have e2 : (op == 2) = false := by rw [beq_eq_false_iff_ne]; omega
  have e3 : (op == 3) = false := by rw [beq_eq_false_iff_ne]; omega
  have e4 : (op == 4) = false := by rw [beq_eq_false_iff_ne]; omega
  have e5 : (op == 5) = false := by rw [beq_eq_false_iff_ne]; omega
  have e6 : (op == 6) = false := by rw [beq_eq_false_iff_ne]; omega
  have e7 : (op == 7) = false := by rw [beq_eq_false_iff_ne]; omega
  have e8 : (op == 8) = false := by rw [beq_eq_false_iff_ne]; omega
  have e9 : (op == 9) = false := by rw [beq_eq_false_iff_ne]; omega
  have e10 : (op == 10) = false := by rw [beq_eq_false_iff_ne]; omega
  have e11 : (op == 11) = false := by rw [beq_eq_false_iff_ne]; omega
  go_enter Tryz.func152, Tryz.ntmps152
  go_wp2_with (first | (go_at_call 181; refine (isRegister_any _ _).mono ?_; rintro e w' ⟨rfl, rfl⟩) | (go_at_call 177; refine (sbelow_any _ _ _).mono ?_; rintro e w' ⟨rfl, rfl⟩))
  go_ret
  exact ⟨ret_bool HB.out.symm, (Below.refl _ _).alloc (Nat.le_refl _) _⟩

theorem isSound_any (x : Ins) (nr nw : Int) (w : World) :
    Calls Tryz.prog 152 #[x.val, .int .i64 nr, .int .i64 nw] w fun e w' => e = .returned (.bool (soundB x nr nw)) ∧ Below w.heap.size w w' := by
  obtain ⟨op, a, b, c⟩ := x
  by_cases h : op < 1 ∨ 11 < op
  · exact isSound_no op a b c nr nw w h
  have : op = 1 ∨ op = 2 ∨ op = 3 ∨ op = 4 ∨ op = 5 ∨ op = 6 ∨ op = 7 ∨ op = 8 ∨ op = 9 ∨ op = 10 ∨ op = 11 := by omega
  rcases this with rfl | rfl | rfl | rfl | rfl | rfl | rfl | rfl | rfl | rfl | rfl
  · exact isSound_1 a b c nr nw w
  · exact isSound_2 a b c nr nw w
  · exact isSound_3 a b c nr nw w
  · exact isSound_4 a b c nr nw w
  · exact isSound_5 a b c nr nw w
  · exact isSound_6 a b c nr nw w
  · exact isSound_7 a b c nr nw w
  · exact isSound_8 a b c nr nw w
  · exact isSound_9 a b c nr nw w
  · exact isSound_10 a b c nr nw w
  · exact isSound_11 a b c nr nw w

end Go.Proofs.YtlheloogmgmjnaaGreat
