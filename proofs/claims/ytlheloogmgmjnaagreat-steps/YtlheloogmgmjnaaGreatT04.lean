import Derived.Test.YtlheloogmgmjnaaGreatT02
import Derived.Deep.RegionHeld
namespace Go.Proofs.YtlheloogmgmjnaaGreat
open Go.RowKit

set_option maxHeartbeats 400000 in
theorem rbelow_any (n t : Int) (w : World) :
    Calls Tryz.prog 188 #[.int .i64 n, .int .i64 t] w fun e w' => e = .returned (.bool (bel n t)) ∧ w' = w := by
  by_cases h : 0 ≤ n
  · have hb : bel n t = decide (n < t) := by simp [bel, h]
    rw [hb]
    go_enter Tryz.func188, Tryz.ntmps188
    go_wp2
    go_ret
    exact ⟨rfl, rfl⟩
  · have hb : bel n t = false := by simp [bel, h]
    rw [hb]
    go_enter Tryz.func188, Tryz.ntmps188
    go_wp2
    go_ret
    exact ⟨rfl, rfl⟩

set_option maxHeartbeats 400000 in
theorem rkeys_any (ao : Option Addr) (cap : Nat) (xs : List Int) (w : World) (hx : IntsAt w ao xs) (hl : xs.length * 8 ≤ 140737488351232) :
    Calls Tryz.prog 153 #[.slice ao xs.length cap] w fun e w' => e = .returned (.bool (!(xs.any fun n => !bel n 24))) ∧ w' = w := by
  go_enter Tryz.func153, Tryz.ntmps153
  go_wp2
  go_loop [3] (fun t => ∃ k : Nat, k ≤ xs.length ∧ t = .int .i64 k ∧ (xs.take k).any (fun n => !bel n 24) = false) (fun t => xs.length - (intOf t).toNat)
  case atStart => exact ⟨0, Nat.zero_le _, rfl, by simp⟩
  case round =>
    obtain ⟨k, hk, rfl, hn⟩ := hrel
    by_cases hlt : k < xs.length
    · obtain ⟨b, o, rfl, hc, _⟩ := hx.at hlt
      have hck := hc k hlt
      have hs := any_take_succ xs (fun n => !bel n 24) 0 hlt
      have ha := any_of_take xs (fun n => !bel n 24) 0 hlt
      generalize xs.getD k 0 = y at *
      rw [hn] at hs
      have HS := hide hs; have HA := hide ha
      clear hs ha hn hc hx
      by_cases h0 : y < 0
      · have hp := hide (show bel y 24 = false by simp [bel]; omega)
        go_wp2
        go_ret
        exact ⟨ret_bool (by rw [HA.out (by rw [hp.out]; rfl)]; rfl), rfl⟩
      · by_cases h1 : 24 ≤ y
        · have hp := hide (show bel y 24 = false by simp [bel]; omega)
          go_wp2
          go_ret
          exact ⟨ret_bool (by rw [HA.out (by rw [hp.out]; rfl)]; rfl), rfl⟩
        · have hp := hide (show bel y 24 = true by simp [bel]; omega)
          go_wp2
          go_round
          case rel => exact ⟨k + 1, by omega, by go_num, by rw [HS.out, hp.out]; rfl⟩
          case measure => simp [intOf]; omega
    · go_wp2
      go_ret
      rw [List.take_of_length_le (by omega)] at hn
      exact ⟨ret_bool (by rw [hn]; rfl), rfl⟩

theorem any_take_of {α : Type} (xs : List α) (p : α → Bool) (d : α) {i k : Nat} (hk : k < i) (hi : i ≤ xs.length) (h : p (xs.getD k d) = true) : (xs.take i).any p = true := by
  rw [List.any_eq_true]
  have : k < xs.length := by omega
  refine ⟨xs[k], ?_, by simpa [List.getD, this] using h⟩
  rw [List.mem_take_iff_getElem]
  exact ⟨k, by omega, rfl⟩

set_option maxHeartbeats 1000000 in
theorem rapart_any (ao : Option Addr) (cap : Nat) (xs : List Int) (w : World) (hx : IntsAt w ao xs) (hl : xs.length * 8 ≤ 140737488351232) :
    Calls Tryz.prog 154 #[.slice ao xs.length cap] w fun e w' => e = .returned (.bool (!twiceTo xs xs.length)) ∧ ∃ n, w' = w.drewN n := by
  go_enter Tryz.func154, Tryz.ntmps154
  go_wp2
  go_loopw [3] (fun t wr => ∃ k : Nat, k ≤ xs.length ∧ t = .int .i64 k ∧ twiceTo xs k = false ∧ ∃ n, wr = w.drewN n) (fun t _ => xs.length - (intOf t).toNat)
  case atStart => exact ⟨0, Nat.zero_le _, rfl, by simp [twiceTo], 0, rfl⟩
  case round =>
    obtain ⟨i, hi, rfl, hn, n, rfl⟩ := hrel
    by_cases hlt : i < xs.length
    · obtain ⟨b, o, rfl, hc, _⟩ := hx.at hlt
      have hs := twiceTo_succ xs i
      have ha := twiceTo_of xs hlt
      rw [hn] at hs
      have HS := hide hs; have HA := hide ha
      have hci := hc i hlt
      have HX := hide hc
      have HY : Hid (∀ k, k < i → (xs.getD k 0 == xs.getD i 0) = true → ((xs.take i).any fun z => z == xs.getD i 0) = true) := fun k hk h => any_take_of xs (fun z => z == xs.getD i 0) 0 hk hi h
      have HT : Hid (∀ k, k < i → ((xs.take i).take (k + 1)).any (fun z => z == xs.getD i 0) = (((xs.take i).take k).any (fun z => z == xs.getD i 0) || (xs.getD k 0 == xs.getD i 0))) := by
        intro k hk
        have hk' : k < (xs.take i).length := by simp; omega
        have := any_take_succ (xs.take i) (fun z => z == xs.getD i 0) 0 hk'
        rw [this]; simp [List.getD, hk]
      clear hs ha hn hc hx
      generalize xs.getD i 0 = y at *
      go_wp2
      go_loopw [4] (fun t wr => ∃ k : Nat, k ≤ i ∧ t = .int .i64 k ∧ ((xs.take i).take k).any (fun z => z == y) = false ∧ ∃ n, wr = w.drewN n) (fun t _ => i - (intOf t).toNat)
      case atStart => exact ⟨0, Nat.zero_le _, rfl, by simp, n, rfl⟩
      case round =>
        obtain ⟨k, hk, rfl, hm, n', rfl⟩ := hrel
        by_cases hlk : k < i
        · have hck := HX.out k (by omega)
          have hy := HY.out k hlk
          have ht := HT.out k hlk
          rw [hm] at ht
          generalize xs.getD k 0 = z at *
          have hY := hide hy; have hT := hide ht
          clear hy ht hm
          by_cases he : z = y
          · have he' : (z == y) = true := by simp [he]
            have HE := hide he
            clear he
            go_wp2
            go_quiet (fail)
            go_wp2
            go_ret
            exact ⟨ret_bool (by rw [HA.out (hY.out (by simp [HE.out]))]; rfl), _, World.drewN_drewN _ _ _⟩
          · have he' : (z == y) = false := by simp [he]
            go_wp2
            go_quiet (fail)
            go_wp2
            go_roundw
            case rel => exact ⟨k + 1, by omega, by go_num, by rw [hT.out]; simp [he], _, rfl⟩
            case measure => simp [intOf]; omega
        · rw [List.take_of_length_le (by simp; omega)] at hm
          rw [hm] at HS
          clear hm
          go_wp2
          go_roundw
          case rel => exact ⟨i + 1, by omega, by go_num, by rw [HS.out]; rfl, _, rfl⟩
          case measure => simp [intOf]; omega
    · go_wp2
      go_ret
      have : i = xs.length := by omega
      subst this
      exact ⟨ret_bool (by rw [hn]; rfl), _, rfl⟩

set_option maxHeartbeats 400000 in
theorem rshape_1 (w : World) : Calls Tryz.prog 182 #[.int .i64 1] w fun e w' => e = .returned (.string ⟨#[114, 110, 45]⟩) ∧ Below w.heap.size w w' := by
  go_enter Tryz.func182, Tryz.ntmps182
  go_wp2
  go_ret
  exact ⟨rfl, below_alloc1 _ _⟩

set_option maxHeartbeats 400000 in
theorem rshape_2 (w : World) : Calls Tryz.prog 182 #[.int .i64 2] w fun e w' => e = .returned (.string ⟨#[114, 114, 114]⟩) ∧ Below w.heap.size w w' := by
  go_enter Tryz.func182, Tryz.ntmps182
  go_wp2
  go_ret
  exact ⟨rfl, below_alloc1 _ _⟩

set_option maxHeartbeats 400000 in
theorem rshape_3 (w : World) : Calls Tryz.prog 182 #[.int .i64 3] w fun e w' => e = .returned (.string ⟨#[114, 114, 114]⟩) ∧ Below w.heap.size w w' := by
  go_enter Tryz.func182, Tryz.ntmps182
  go_wp2
  go_ret
  exact ⟨rfl, below_alloc1 _ _⟩

set_option maxHeartbeats 400000 in
theorem rshape_4 (w : World) : Calls Tryz.prog 182 #[.int .i64 4] w fun e w' => e = .returned (.string ⟨#[114, 114, 114]⟩) ∧ Below w.heap.size w w' := by
  go_enter Tryz.func182, Tryz.ntmps182
  go_wp2
  go_ret
  exact ⟨rfl, below_alloc1 _ _⟩

set_option maxHeartbeats 400000 in
theorem rshape_5 (w : World) : Calls Tryz.prog 182 #[.int .i64 5] w fun e w' => e = .returned (.string ⟨#[114, 114, 114]⟩) ∧ Below w.heap.size w w' := by
  go_enter Tryz.func182, Tryz.ntmps182
  go_wp2
  go_ret
  exact ⟨rfl, below_alloc1 _ _⟩

set_option maxHeartbeats 400000 in
theorem rshape_6 (w : World) : Calls Tryz.prog 182 #[.int .i64 6] w fun e w' => e = .returned (.string ⟨#[114, 105, 45]⟩) ∧ Below w.heap.size w w' := by
  go_enter Tryz.func182, Tryz.ntmps182
  go_wp2
  go_ret
  exact ⟨rfl, below_alloc1 _ _⟩

set_option maxHeartbeats 400000 in
theorem rshape_7 (w : World) : Calls Tryz.prog 182 #[.int .i64 7] w fun e w' => e = .returned (.string ⟨#[114, 105, 45]⟩) ∧ Below w.heap.size w w' := by
  go_enter Tryz.func182, Tryz.ntmps182
  go_wp2
  go_ret
  exact ⟨rfl, below_alloc1 _ _⟩

set_option maxHeartbeats 400000 in
theorem rshape_8 (w : World) : Calls Tryz.prog 182 #[.int .i64 8] w fun e w' => e = .returned (.string ⟨#[111, 114, 45]⟩) ∧ Below w.heap.size w w' := by
  go_enter Tryz.func182, Tryz.ntmps182
  go_wp2
  go_ret
  exact ⟨rfl, below_alloc1 _ _⟩

set_option maxHeartbeats 400000 in
theorem rshape_9 (w : World) : Calls Tryz.prog 182 #[.int .i64 9] w fun e w' => e = .returned (.string ⟨#[111, 45, 45]⟩) ∧ Below w.heap.size w w' := by
  go_enter Tryz.func182, Tryz.ntmps182
  go_wp2
  go_ret
  exact ⟨rfl, below_alloc1 _ _⟩

set_option maxHeartbeats 400000 in
theorem rshape_10 (w : World) : Calls Tryz.prog 182 #[.int .i64 10] w fun e w' => e = .returned (.string ⟨#[114, 115, 45]⟩) ∧ Below w.heap.size w w' := by
  go_enter Tryz.func182, Tryz.ntmps182
  go_wp2
  go_ret
  exact ⟨rfl, below_alloc1 _ _⟩

set_option maxHeartbeats 400000 in
theorem rshape_11 (w : World) : Calls Tryz.prog 182 #[.int .i64 11] w fun e w' => e = .returned (.string ⟨#[45, 45, 45]⟩) ∧ Below w.heap.size w w' := by
  go_enter Tryz.func182, Tryz.ntmps182
  go_wp2
  go_ret
  exact ⟨rfl, below_alloc1 _ _⟩

set_option maxHeartbeats 400000 in
theorem rshape_no (op : Int) (w : World) (h : op < 1 ∨ 11 < op) : Calls Tryz.prog 182 #[.int .i64 op] w fun e w' => e = .returned (.string ⟨#[]⟩) ∧ Below w.heap.size w w' := by
  rcases h with h | h
  · go_enter Tryz.func182, Tryz.ntmps182
    go_wp2
    go_ret
    exact ⟨rfl, below_alloc1 _ _⟩
  · have h' : ¬ op < 1 := by omega
    go_enter Tryz.func182, Tryz.ntmps182
    go_wp2
    go_ret
    exact ⟨rfl, below_alloc1 _ _⟩

set_option maxHeartbeats 400000 in
theorem roperand_114 (n : Int) (ra wa ca : Option Addr) (rn rc wn wc cn cc : Nat) (w : World) :
    Calls Tryz.prog 183 #[.int .u8 114, .int .i64 n, .agg #[.slice ra rn rc, .slice wa wn wc, .slice ca cn cc]] w fun e w' => e = .returned (.bool (bel n 6)) ∧ Below w.heap.size w w' := by
  go_enter Tryz.func183, Tryz.ntmps183
  go_wp2_with (go_at_call 188; refine (rbelow_any _ _ _).mono ?_; rintro e w' ⟨rfl, rfl⟩)
  go_ret
  exact ⟨rfl, below_alloc1 _ _⟩

set_option maxHeartbeats 400000 in
theorem roperand_105 (n : Int) (ra wa ca : Option Addr) (rn rc wn wc cn cc : Nat) (w : World) :
    Calls Tryz.prog 183 #[.int .u8 105, .int .i64 n, .agg #[.slice ra rn rc, .slice wa wn wc, .slice ca cn cc]] w fun e w' => e = .returned (.bool (bel n rn)) ∧ Below w.heap.size w w' := by
  go_enter Tryz.func183, Tryz.ntmps183
  go_wp2_with (go_at_call 188; refine (rbelow_any _ _ _).mono ?_; rintro e w' ⟨rfl, rfl⟩)
  go_ret
  exact ⟨rfl, below_alloc1 _ _⟩

set_option maxHeartbeats 400000 in
theorem roperand_111 (n : Int) (ra wa ca : Option Addr) (rn rc wn wc cn cc : Nat) (w : World) :
    Calls Tryz.prog 183 #[.int .u8 111, .int .i64 n, .agg #[.slice ra rn rc, .slice wa wn wc, .slice ca cn cc]] w fun e w' => e = .returned (.bool (bel n wn)) ∧ Below w.heap.size w w' := by
  go_enter Tryz.func183, Tryz.ntmps183
  go_wp2_with (go_at_call 188; refine (rbelow_any _ _ _).mono ?_; rintro e w' ⟨rfl, rfl⟩)
  go_ret
  exact ⟨rfl, below_alloc1 _ _⟩

set_option maxHeartbeats 400000 in
theorem roperand_45 (n : Int) (ra wa ca : Option Addr) (rn rc wn wc cn cc : Nat) (w : World) :
    Calls Tryz.prog 183 #[.int .u8 45, .int .i64 n, .agg #[.slice ra rn rc, .slice wa wn wc, .slice ca cn cc]] w fun e w' => e = .returned (.bool (n == 0)) ∧ Below w.heap.size w w' := by
  go_enter Tryz.func183, Tryz.ntmps183
  go_wp2_with (go_at_call 188; refine (rbelow_any _ _ _).mono ?_; rintro e w' ⟨rfl, rfl⟩)
  go_ret
  exact ⟨rfl, below_alloc1 _ _⟩

set_option maxHeartbeats 400000 in
theorem roperand_110 (n : Int) (ra wa ca : Option Addr) (rn rc wn wc cn cc : Nat) (w : World) :
    Calls Tryz.prog 183 #[.int .u8 110, .int .i64 n, .agg #[.slice ra rn rc, .slice wa wn wc, .slice ca cn cc]] w fun e w' => e = .returned (.bool (true)) ∧ Below w.heap.size w w' := by
  go_enter Tryz.func183, Tryz.ntmps183
  go_wp2_with (go_at_call 188; refine (rbelow_any _ _ _).mono ?_; rintro e w' ⟨rfl, rfl⟩)
  go_ret
  exact ⟨rfl, below_alloc1 _ _⟩

set_option maxHeartbeats 400000 in
theorem roperand_115 (n : Int) (ra wa ca : Option Addr) (rn rc wn wc cn cc : Nat) (w : World) :
    Calls Tryz.prog 183 #[.int .u8 115, .int .i64 n, .agg #[.slice ra rn rc, .slice wa wn wc, .slice ca cn cc]] w fun e w' => e = .returned (.bool (decide (1 ≤ n) && decide (n ≤ 30))) ∧ Below w.heap.size w w' := by
  by_cases h : 1 ≤ n
  · rw [decide_eq_true h, Bool.true_and]
    go_enter Tryz.func183, Tryz.ntmps183
    go_wp2_with (go_at_call 188; refine (rbelow_any _ _ _).mono ?_; rintro e w' ⟨rfl, rfl⟩)
    go_ret
    exact ⟨rfl, below_alloc1 _ _⟩
  · rw [decide_eq_false h, Bool.false_and]
    go_enter Tryz.func183, Tryz.ntmps183
    go_wp2_with (go_at_call 188; refine (rbelow_any _ _ _).mono ?_; rintro e w' ⟨rfl, rfl⟩)
    go_ret
    exact ⟨rfl, below_alloc1 _ _⟩

end Go.Proofs.YtlheloogmgmjnaaGreat

namespace Go.Proofs.YtlheloogmgmjnaaGreat
open Go.RowKit

set_option maxHeartbeats 1000000 in
theorem rSound_1 (a b c : Int) (ra wa ca : Option Addr) (rn rc wn wc cn cc : Nat) (w : World) :
    Calls Tryz.prog 155 #[.agg #[.int .i64 1, .int .i64 a, .int .i64 b, .int .i64 c], .agg #[.slice ra rn rc, .slice wa wn wc, .slice ca cn cc]] w fun e w' => e = .returned (.bool (soundB ⟨1, a, b, c⟩ rn wn)) ∧ Below w.heap.size w w' := by
  have HB := hide (by simp [soundB] : soundB ⟨1, a, b, c⟩ rn wn = (bel a 6 && (true && (c == 0))))
  go_enter Tryz.func155, Tryz.ntmps155
  go_wp2_with fail
  refine (rshape_1 _).mono ?_
  rintro e w1 ⟨rfl, hw1⟩
  have cx := fun (o : Nat) (v : Value) (h : (w.alloc (Obj.cells #[.int .i64 1, .int .i64 a, .int .i64 b, .int .i64 c] 114)).cell? ⟨w.heap.size, o, none⟩ = some v) => cell_below hw1 (Nat.le_refl _) (cell_below (below_alloc1 _ _) (Nat.le_refl _) h)
  have c1 := (bcell hw1).1
  have x1 : w1.cell? ⟨w.heap.size, 1, none⟩ = some (.int .i64 a) := cx 1 _ (by simp)
  have x2 : w1.cell? ⟨w.heap.size, 2, none⟩ = some (.int .i64 b) := cx 2 _ (by simp)
  have x3 : w1.cell? ⟨w.heap.size, 3, none⟩ = some (.int .i64 c) := cx 3 _ (by simp)
  have y0 : w1.cell? ⟨w.heap.size + 1, 0, none⟩ = some (.slice ra rn rc) := by rw [c1 _ _ (by simp)]; simp
  have y1 : w1.cell? ⟨w.heap.size + 1, 1, none⟩ = some (.slice wa wn wc) := by rw [c1 _ _ (by simp)]; simp
  have y2 : w1.cell? ⟨w.heap.size + 1, 2, none⟩ = some (.slice ca cn cc) := by rw [c1 _ _ (by simp)]; simp
  have hw := below_alloc (below_alloc hw1)
  clear c1 hw1 cx
  have KL := hide (fun w' (hB : Below w1.heap.size w1 w') => And.intro (cell_below hB (Nat.le_refl _) x1) (And.intro (cell_below hB (Nat.le_refl _) y0) (And.intro (cell_below hB (Nat.le_refl _) y1) (And.intro (cell_below hB (Nat.le_refl _) y2) hB))))
  go_wp2
  go_region_held (fun w' => w'.cell? ⟨w.heap.size, 1, none⟩ = some (.int .i64 a) ∧ w'.cell? ⟨w.heap.size + 1, 0, none⟩ = some (.slice ra rn rc) ∧ w'.cell? ⟨w.heap.size + 1, 1, none⟩ = some (.slice wa wn wc) ∧ w'.cell? ⟨w.heap.size + 1, 2, none⟩ = some (.slice ca cn cc) ∧ Below w1.heap.size w1 w') (first | (refine KL.out _ ?_; exact (Below.refl _ _).drew) | (refine KL.out _ (below_on ?_ hw2); exact (Below.refl _ _).drew))
    (first | (go_at_call 183; refine (roperand_114 _ _ _ _ _ _ _ _ _ _ _).mono ?_; rintro e w2 ⟨rfl, hw2⟩))
  have hw2' : Below w1.heap.size w1 w2 := below_on (Below.refl _ _).drew hw2
  clear KL hw2
  replace x2 := cell_below hw2' (Nat.le_refl _) x2
  replace x3 := cell_below hw2' (Nat.le_refl _) x3
  replace y0 := cell_below hw2' (Nat.le_refl _) y0
  replace y1 := cell_below hw2' (Nat.le_refl _) y1
  replace y2 := cell_below hw2' (Nat.le_refl _) y2
  replace hw := below_on hw hw2'
  clear hw2' x1
  have KL := hide (fun w' (hB : Below w2.heap.size w2 w') => And.intro (cell_below hB (Nat.le_refl _) x2) (And.intro (cell_below hB (Nat.le_refl _) y0) (And.intro (cell_below hB (Nat.le_refl _) y1) (And.intro (cell_below hB (Nat.le_refl _) y2) hB))))
  go_wp2
  go_region_held (fun w' => w'.cell? ⟨w.heap.size, 2, none⟩ = some (.int .i64 b) ∧ w'.cell? ⟨w.heap.size + 1, 0, none⟩ = some (.slice ra rn rc) ∧ w'.cell? ⟨w.heap.size + 1, 1, none⟩ = some (.slice wa wn wc) ∧ w'.cell? ⟨w.heap.size + 1, 2, none⟩ = some (.slice ca cn cc) ∧ Below w2.heap.size w2 w') (first | (refine KL.out _ ?_; exact (Below.refl _ _).drew) | (refine KL.out _ (below_on ?_ hw3); exact (Below.refl _ _).drew))
    (first | (go_at_call 183; refine (roperand_110 _ _ _ _ _ _ _ _ _ _ _).mono ?_; rintro e w3 ⟨rfl, hw3⟩))
  have hw3' : Below w2.heap.size w2 w3 := below_on (Below.refl _ _).drew hw3
  clear KL hw3
  replace x2 := cell_below hw3' (Nat.le_refl _) x2
  replace x3 := cell_below hw3' (Nat.le_refl _) x3
  replace y0 := cell_below hw3' (Nat.le_refl _) y0
  replace y1 := cell_below hw3' (Nat.le_refl _) y1
  replace y2 := cell_below hw3' (Nat.le_refl _) y2
  replace hw := below_on hw hw3'
  clear hw3'
  have KL := hide (fun w' (hB : Below w3.heap.size w3 w') => And.intro (cell_below hB (Nat.le_refl _) x3) (And.intro (cell_below hB (Nat.le_refl _) y0) (And.intro (cell_below hB (Nat.le_refl _) y1) (And.intro (cell_below hB (Nat.le_refl _) y2) hB))))
  go_wp2
  go_region_held (fun w' => w'.cell? ⟨w.heap.size, 3, none⟩ = some (.int .i64 c) ∧ w'.cell? ⟨w.heap.size + 1, 0, none⟩ = some (.slice ra rn rc) ∧ w'.cell? ⟨w.heap.size + 1, 1, none⟩ = some (.slice wa wn wc) ∧ w'.cell? ⟨w.heap.size + 1, 2, none⟩ = some (.slice ca cn cc) ∧ Below w3.heap.size w3 w') (first | (refine KL.out _ ?_; exact (Below.refl _ _).drew) | (refine KL.out _ (below_on ?_ hw4); exact (Below.refl _ _).drew))
    (first | (go_at_call 183; refine (roperand_45 _ _ _ _ _ _ _ _ _ _ _).mono ?_; rintro e w4 ⟨rfl, hw4⟩))
  have hw4' : Below w.heap.size w w4 := below_on hw (below_on (Below.refl _ _).drew hw4)
  clear KL hw4 hw x2 x3 y0 y1 y2
  generalize bel a 6 = p0 at *
  generalize (c == 0) = p2 at *
  cases p0
  all_goals
    go_wp2
    go_ret
    exact ⟨ret_bool (by rw [HB.out]; rfl), hw4'⟩

set_option maxHeartbeats 1000000 in
theorem rSound_2 (a b c : Int) (ra wa ca : Option Addr) (rn rc wn wc cn cc : Nat) (w : World) :
    Calls Tryz.prog 155 #[.agg #[.int .i64 2, .int .i64 a, .int .i64 b, .int .i64 c], .agg #[.slice ra rn rc, .slice wa wn wc, .slice ca cn cc]] w fun e w' => e = .returned (.bool (soundB ⟨2, a, b, c⟩ rn wn)) ∧ Below w.heap.size w w' := by
  have HB := hide (by simp [soundB, Bool.and_assoc] : soundB ⟨2, a, b, c⟩ rn wn = (bel a 6 && (bel b 6 && bel c 6)))
  go_enter Tryz.func155, Tryz.ntmps155
  go_wp2_with fail
  refine (rshape_2 _).mono ?_
  rintro e w1 ⟨rfl, hw1⟩
  have cx := fun (o : Nat) (v : Value) (h : (w.alloc (Obj.cells #[.int .i64 2, .int .i64 a, .int .i64 b, .int .i64 c] 114)).cell? ⟨w.heap.size, o, none⟩ = some v) => cell_below hw1 (Nat.le_refl _) (cell_below (below_alloc1 _ _) (Nat.le_refl _) h)
  have c1 := (bcell hw1).1
  have x1 : w1.cell? ⟨w.heap.size, 1, none⟩ = some (.int .i64 a) := cx 1 _ (by simp)
  have x2 : w1.cell? ⟨w.heap.size, 2, none⟩ = some (.int .i64 b) := cx 2 _ (by simp)
  have x3 : w1.cell? ⟨w.heap.size, 3, none⟩ = some (.int .i64 c) := cx 3 _ (by simp)
  have y0 : w1.cell? ⟨w.heap.size + 1, 0, none⟩ = some (.slice ra rn rc) := by rw [c1 _ _ (by simp)]; simp
  have y1 : w1.cell? ⟨w.heap.size + 1, 1, none⟩ = some (.slice wa wn wc) := by rw [c1 _ _ (by simp)]; simp
  have y2 : w1.cell? ⟨w.heap.size + 1, 2, none⟩ = some (.slice ca cn cc) := by rw [c1 _ _ (by simp)]; simp
  have hw := below_alloc (below_alloc hw1)
  clear c1 hw1 cx
  have KL := hide (fun w' (hB : Below w1.heap.size w1 w') => And.intro (cell_below hB (Nat.le_refl _) x1) (And.intro (cell_below hB (Nat.le_refl _) y0) (And.intro (cell_below hB (Nat.le_refl _) y1) (And.intro (cell_below hB (Nat.le_refl _) y2) hB))))
  go_wp2
  go_region_held (fun w' => w'.cell? ⟨w.heap.size, 1, none⟩ = some (.int .i64 a) ∧ w'.cell? ⟨w.heap.size + 1, 0, none⟩ = some (.slice ra rn rc) ∧ w'.cell? ⟨w.heap.size + 1, 1, none⟩ = some (.slice wa wn wc) ∧ w'.cell? ⟨w.heap.size + 1, 2, none⟩ = some (.slice ca cn cc) ∧ Below w1.heap.size w1 w') (first | (refine KL.out _ ?_; exact (Below.refl _ _).drew) | (refine KL.out _ (below_on ?_ hw2); exact (Below.refl _ _).drew))
    (first | (go_at_call 183; refine (roperand_114 _ _ _ _ _ _ _ _ _ _ _).mono ?_; rintro e w2 ⟨rfl, hw2⟩))
  have hw2' : Below w1.heap.size w1 w2 := below_on (Below.refl _ _).drew hw2
  clear KL hw2
  replace x2 := cell_below hw2' (Nat.le_refl _) x2
  replace x3 := cell_below hw2' (Nat.le_refl _) x3
  replace y0 := cell_below hw2' (Nat.le_refl _) y0
  replace y1 := cell_below hw2' (Nat.le_refl _) y1
  replace y2 := cell_below hw2' (Nat.le_refl _) y2
  replace hw := below_on hw hw2'
  clear hw2' x1
  have KL := hide (fun w' (hB : Below w2.heap.size w2 w') => And.intro (cell_below hB (Nat.le_refl _) x2) (And.intro (cell_below hB (Nat.le_refl _) y0) (And.intro (cell_below hB (Nat.le_refl _) y1) (And.intro (cell_below hB (Nat.le_refl _) y2) hB))))
  go_wp2
  go_region_held (fun w' => w'.cell? ⟨w.heap.size, 2, none⟩ = some (.int .i64 b) ∧ w'.cell? ⟨w.heap.size + 1, 0, none⟩ = some (.slice ra rn rc) ∧ w'.cell? ⟨w.heap.size + 1, 1, none⟩ = some (.slice wa wn wc) ∧ w'.cell? ⟨w.heap.size + 1, 2, none⟩ = some (.slice ca cn cc) ∧ Below w2.heap.size w2 w') (first | (refine KL.out _ ?_; exact (Below.refl _ _).drew) | (refine KL.out _ (below_on ?_ hw3); exact (Below.refl _ _).drew))
    (first | (go_at_call 183; refine (roperand_114 _ _ _ _ _ _ _ _ _ _ _).mono ?_; rintro e w3 ⟨rfl, hw3⟩))
  have hw3' : Below w2.heap.size w2 w3 := below_on (Below.refl _ _).drew hw3
  clear KL hw3
  replace x2 := cell_below hw3' (Nat.le_refl _) x2
  replace x3 := cell_below hw3' (Nat.le_refl _) x3
  replace y0 := cell_below hw3' (Nat.le_refl _) y0
  replace y1 := cell_below hw3' (Nat.le_refl _) y1
  replace y2 := cell_below hw3' (Nat.le_refl _) y2
  replace hw := below_on hw hw3'
  clear hw3'
  have KL := hide (fun w' (hB : Below w3.heap.size w3 w') => And.intro (cell_below hB (Nat.le_refl _) x3) (And.intro (cell_below hB (Nat.le_refl _) y0) (And.intro (cell_below hB (Nat.le_refl _) y1) (And.intro (cell_below hB (Nat.le_refl _) y2) hB))))
  go_wp2
  go_region_held (fun w' => w'.cell? ⟨w.heap.size, 3, none⟩ = some (.int .i64 c) ∧ w'.cell? ⟨w.heap.size + 1, 0, none⟩ = some (.slice ra rn rc) ∧ w'.cell? ⟨w.heap.size + 1, 1, none⟩ = some (.slice wa wn wc) ∧ w'.cell? ⟨w.heap.size + 1, 2, none⟩ = some (.slice ca cn cc) ∧ Below w3.heap.size w3 w') (first | (refine KL.out _ ?_; exact (Below.refl _ _).drew) | (refine KL.out _ (below_on ?_ hw4); exact (Below.refl _ _).drew))
    (first | (go_at_call 183; refine (roperand_114 _ _ _ _ _ _ _ _ _ _ _).mono ?_; rintro e w4 ⟨rfl, hw4⟩))
  have hw4' : Below w.heap.size w w4 := below_on hw (below_on (Below.refl _ _).drew hw4)
  clear KL hw4 hw x2 x3 y0 y1 y2
  generalize bel a 6 = p0 at *
  generalize bel b 6 = p1 at *
  generalize bel c 6 = p2 at *
  cases p0 <;> cases p1
  all_goals
    go_wp2
    go_ret
    exact ⟨ret_bool (by rw [HB.out]; rfl), hw4'⟩

set_option maxHeartbeats 1000000 in
theorem rSound_3 (a b c : Int) (ra wa ca : Option Addr) (rn rc wn wc cn cc : Nat) (w : World) :
    Calls Tryz.prog 155 #[.agg #[.int .i64 3, .int .i64 a, .int .i64 b, .int .i64 c], .agg #[.slice ra rn rc, .slice wa wn wc, .slice ca cn cc]] w fun e w' => e = .returned (.bool (soundB ⟨3, a, b, c⟩ rn wn)) ∧ Below w.heap.size w w' := by
  have HB := hide (by simp [soundB, Bool.and_assoc] : soundB ⟨3, a, b, c⟩ rn wn = (bel a 6 && (bel b 6 && bel c 6)))
  go_enter Tryz.func155, Tryz.ntmps155
  go_wp2_with fail
  refine (rshape_3 _).mono ?_
  rintro e w1 ⟨rfl, hw1⟩
  have cx := fun (o : Nat) (v : Value) (h : (w.alloc (Obj.cells #[.int .i64 3, .int .i64 a, .int .i64 b, .int .i64 c] 114)).cell? ⟨w.heap.size, o, none⟩ = some v) => cell_below hw1 (Nat.le_refl _) (cell_below (below_alloc1 _ _) (Nat.le_refl _) h)
  have c1 := (bcell hw1).1
  have x1 : w1.cell? ⟨w.heap.size, 1, none⟩ = some (.int .i64 a) := cx 1 _ (by simp)
  have x2 : w1.cell? ⟨w.heap.size, 2, none⟩ = some (.int .i64 b) := cx 2 _ (by simp)
  have x3 : w1.cell? ⟨w.heap.size, 3, none⟩ = some (.int .i64 c) := cx 3 _ (by simp)
  have y0 : w1.cell? ⟨w.heap.size + 1, 0, none⟩ = some (.slice ra rn rc) := by rw [c1 _ _ (by simp)]; simp
  have y1 : w1.cell? ⟨w.heap.size + 1, 1, none⟩ = some (.slice wa wn wc) := by rw [c1 _ _ (by simp)]; simp
  have y2 : w1.cell? ⟨w.heap.size + 1, 2, none⟩ = some (.slice ca cn cc) := by rw [c1 _ _ (by simp)]; simp
  have hw := below_alloc (below_alloc hw1)
  clear c1 hw1 cx
  have KL := hide (fun w' (hB : Below w1.heap.size w1 w') => And.intro (cell_below hB (Nat.le_refl _) x1) (And.intro (cell_below hB (Nat.le_refl _) y0) (And.intro (cell_below hB (Nat.le_refl _) y1) (And.intro (cell_below hB (Nat.le_refl _) y2) hB))))
  go_wp2
  go_region_held (fun w' => w'.cell? ⟨w.heap.size, 1, none⟩ = some (.int .i64 a) ∧ w'.cell? ⟨w.heap.size + 1, 0, none⟩ = some (.slice ra rn rc) ∧ w'.cell? ⟨w.heap.size + 1, 1, none⟩ = some (.slice wa wn wc) ∧ w'.cell? ⟨w.heap.size + 1, 2, none⟩ = some (.slice ca cn cc) ∧ Below w1.heap.size w1 w') (first | (refine KL.out _ ?_; exact (Below.refl _ _).drew) | (refine KL.out _ (below_on ?_ hw2); exact (Below.refl _ _).drew))
    (first | (go_at_call 183; refine (roperand_114 _ _ _ _ _ _ _ _ _ _ _).mono ?_; rintro e w2 ⟨rfl, hw2⟩))
  have hw2' : Below w1.heap.size w1 w2 := below_on (Below.refl _ _).drew hw2
  clear KL hw2
  replace x2 := cell_below hw2' (Nat.le_refl _) x2
  replace x3 := cell_below hw2' (Nat.le_refl _) x3
  replace y0 := cell_below hw2' (Nat.le_refl _) y0
  replace y1 := cell_below hw2' (Nat.le_refl _) y1
  replace y2 := cell_below hw2' (Nat.le_refl _) y2
  replace hw := below_on hw hw2'
  clear hw2' x1
  have KL := hide (fun w' (hB : Below w2.heap.size w2 w') => And.intro (cell_below hB (Nat.le_refl _) x2) (And.intro (cell_below hB (Nat.le_refl _) y0) (And.intro (cell_below hB (Nat.le_refl _) y1) (And.intro (cell_below hB (Nat.le_refl _) y2) hB))))
  go_wp2
  go_region_held (fun w' => w'.cell? ⟨w.heap.size, 2, none⟩ = some (.int .i64 b) ∧ w'.cell? ⟨w.heap.size + 1, 0, none⟩ = some (.slice ra rn rc) ∧ w'.cell? ⟨w.heap.size + 1, 1, none⟩ = some (.slice wa wn wc) ∧ w'.cell? ⟨w.heap.size + 1, 2, none⟩ = some (.slice ca cn cc) ∧ Below w2.heap.size w2 w') (first | (refine KL.out _ ?_; exact (Below.refl _ _).drew) | (refine KL.out _ (below_on ?_ hw3); exact (Below.refl _ _).drew))
    (first | (go_at_call 183; refine (roperand_114 _ _ _ _ _ _ _ _ _ _ _).mono ?_; rintro e w3 ⟨rfl, hw3⟩))
  have hw3' : Below w2.heap.size w2 w3 := below_on (Below.refl _ _).drew hw3
  clear KL hw3
  replace x2 := cell_below hw3' (Nat.le_refl _) x2
  replace x3 := cell_below hw3' (Nat.le_refl _) x3
  replace y0 := cell_below hw3' (Nat.le_refl _) y0
  replace y1 := cell_below hw3' (Nat.le_refl _) y1
  replace y2 := cell_below hw3' (Nat.le_refl _) y2
  replace hw := below_on hw hw3'
  clear hw3'
  have KL := hide (fun w' (hB : Below w3.heap.size w3 w') => And.intro (cell_below hB (Nat.le_refl _) x3) (And.intro (cell_below hB (Nat.le_refl _) y0) (And.intro (cell_below hB (Nat.le_refl _) y1) (And.intro (cell_below hB (Nat.le_refl _) y2) hB))))
  go_wp2
  go_region_held (fun w' => w'.cell? ⟨w.heap.size, 3, none⟩ = some (.int .i64 c) ∧ w'.cell? ⟨w.heap.size + 1, 0, none⟩ = some (.slice ra rn rc) ∧ w'.cell? ⟨w.heap.size + 1, 1, none⟩ = some (.slice wa wn wc) ∧ w'.cell? ⟨w.heap.size + 1, 2, none⟩ = some (.slice ca cn cc) ∧ Below w3.heap.size w3 w') (first | (refine KL.out _ ?_; exact (Below.refl _ _).drew) | (refine KL.out _ (below_on ?_ hw4); exact (Below.refl _ _).drew))
    (first | (go_at_call 183; refine (roperand_114 _ _ _ _ _ _ _ _ _ _ _).mono ?_; rintro e w4 ⟨rfl, hw4⟩))
  have hw4' : Below w.heap.size w w4 := below_on hw (below_on (Below.refl _ _).drew hw4)
  clear KL hw4 hw x2 x3 y0 y1 y2
  generalize bel a 6 = p0 at *
  generalize bel b 6 = p1 at *
  generalize bel c 6 = p2 at *
  cases p0 <;> cases p1
  all_goals
    go_wp2
    go_ret
    exact ⟨ret_bool (by rw [HB.out]; rfl), hw4'⟩

set_option maxHeartbeats 1000000 in
theorem rSound_4 (a b c : Int) (ra wa ca : Option Addr) (rn rc wn wc cn cc : Nat) (w : World) :
    Calls Tryz.prog 155 #[.agg #[.int .i64 4, .int .i64 a, .int .i64 b, .int .i64 c], .agg #[.slice ra rn rc, .slice wa wn wc, .slice ca cn cc]] w fun e w' => e = .returned (.bool (soundB ⟨4, a, b, c⟩ rn wn)) ∧ Below w.heap.size w w' := by
  have HB := hide (by simp [soundB, Bool.and_assoc] : soundB ⟨4, a, b, c⟩ rn wn = (bel a 6 && (bel b 6 && bel c 6)))
  go_enter Tryz.func155, Tryz.ntmps155
  go_wp2_with fail
  refine (rshape_4 _).mono ?_
  rintro e w1 ⟨rfl, hw1⟩
  have cx := fun (o : Nat) (v : Value) (h : (w.alloc (Obj.cells #[.int .i64 4, .int .i64 a, .int .i64 b, .int .i64 c] 114)).cell? ⟨w.heap.size, o, none⟩ = some v) => cell_below hw1 (Nat.le_refl _) (cell_below (below_alloc1 _ _) (Nat.le_refl _) h)
  have c1 := (bcell hw1).1
  have x1 : w1.cell? ⟨w.heap.size, 1, none⟩ = some (.int .i64 a) := cx 1 _ (by simp)
  have x2 : w1.cell? ⟨w.heap.size, 2, none⟩ = some (.int .i64 b) := cx 2 _ (by simp)
  have x3 : w1.cell? ⟨w.heap.size, 3, none⟩ = some (.int .i64 c) := cx 3 _ (by simp)
  have y0 : w1.cell? ⟨w.heap.size + 1, 0, none⟩ = some (.slice ra rn rc) := by rw [c1 _ _ (by simp)]; simp
  have y1 : w1.cell? ⟨w.heap.size + 1, 1, none⟩ = some (.slice wa wn wc) := by rw [c1 _ _ (by simp)]; simp
  have y2 : w1.cell? ⟨w.heap.size + 1, 2, none⟩ = some (.slice ca cn cc) := by rw [c1 _ _ (by simp)]; simp
  have hw := below_alloc (below_alloc hw1)
  clear c1 hw1 cx
  have KL := hide (fun w' (hB : Below w1.heap.size w1 w') => And.intro (cell_below hB (Nat.le_refl _) x1) (And.intro (cell_below hB (Nat.le_refl _) y0) (And.intro (cell_below hB (Nat.le_refl _) y1) (And.intro (cell_below hB (Nat.le_refl _) y2) hB))))
  go_wp2
  go_region_held (fun w' => w'.cell? ⟨w.heap.size, 1, none⟩ = some (.int .i64 a) ∧ w'.cell? ⟨w.heap.size + 1, 0, none⟩ = some (.slice ra rn rc) ∧ w'.cell? ⟨w.heap.size + 1, 1, none⟩ = some (.slice wa wn wc) ∧ w'.cell? ⟨w.heap.size + 1, 2, none⟩ = some (.slice ca cn cc) ∧ Below w1.heap.size w1 w') (first | (refine KL.out _ ?_; exact (Below.refl _ _).drew) | (refine KL.out _ (below_on ?_ hw2); exact (Below.refl _ _).drew))
    (first | (go_at_call 183; refine (roperand_114 _ _ _ _ _ _ _ _ _ _ _).mono ?_; rintro e w2 ⟨rfl, hw2⟩))
  have hw2' : Below w1.heap.size w1 w2 := below_on (Below.refl _ _).drew hw2
  clear KL hw2
  replace x2 := cell_below hw2' (Nat.le_refl _) x2
  replace x3 := cell_below hw2' (Nat.le_refl _) x3
  replace y0 := cell_below hw2' (Nat.le_refl _) y0
  replace y1 := cell_below hw2' (Nat.le_refl _) y1
  replace y2 := cell_below hw2' (Nat.le_refl _) y2
  replace hw := below_on hw hw2'
  clear hw2' x1
  have KL := hide (fun w' (hB : Below w2.heap.size w2 w') => And.intro (cell_below hB (Nat.le_refl _) x2) (And.intro (cell_below hB (Nat.le_refl _) y0) (And.intro (cell_below hB (Nat.le_refl _) y1) (And.intro (cell_below hB (Nat.le_refl _) y2) hB))))
  go_wp2
  go_region_held (fun w' => w'.cell? ⟨w.heap.size, 2, none⟩ = some (.int .i64 b) ∧ w'.cell? ⟨w.heap.size + 1, 0, none⟩ = some (.slice ra rn rc) ∧ w'.cell? ⟨w.heap.size + 1, 1, none⟩ = some (.slice wa wn wc) ∧ w'.cell? ⟨w.heap.size + 1, 2, none⟩ = some (.slice ca cn cc) ∧ Below w2.heap.size w2 w') (first | (refine KL.out _ ?_; exact (Below.refl _ _).drew) | (refine KL.out _ (below_on ?_ hw3); exact (Below.refl _ _).drew))
    (first | (go_at_call 183; refine (roperand_114 _ _ _ _ _ _ _ _ _ _ _).mono ?_; rintro e w3 ⟨rfl, hw3⟩))
  have hw3' : Below w2.heap.size w2 w3 := below_on (Below.refl _ _).drew hw3
  clear KL hw3
  replace x2 := cell_below hw3' (Nat.le_refl _) x2
  replace x3 := cell_below hw3' (Nat.le_refl _) x3
  replace y0 := cell_below hw3' (Nat.le_refl _) y0
  replace y1 := cell_below hw3' (Nat.le_refl _) y1
  replace y2 := cell_below hw3' (Nat.le_refl _) y2
  replace hw := below_on hw hw3'
  clear hw3'
  have KL := hide (fun w' (hB : Below w3.heap.size w3 w') => And.intro (cell_below hB (Nat.le_refl _) x3) (And.intro (cell_below hB (Nat.le_refl _) y0) (And.intro (cell_below hB (Nat.le_refl _) y1) (And.intro (cell_below hB (Nat.le_refl _) y2) hB))))
  go_wp2
  go_region_held (fun w' => w'.cell? ⟨w.heap.size, 3, none⟩ = some (.int .i64 c) ∧ w'.cell? ⟨w.heap.size + 1, 0, none⟩ = some (.slice ra rn rc) ∧ w'.cell? ⟨w.heap.size + 1, 1, none⟩ = some (.slice wa wn wc) ∧ w'.cell? ⟨w.heap.size + 1, 2, none⟩ = some (.slice ca cn cc) ∧ Below w3.heap.size w3 w') (first | (refine KL.out _ ?_; exact (Below.refl _ _).drew) | (refine KL.out _ (below_on ?_ hw4); exact (Below.refl _ _).drew))
    (first | (go_at_call 183; refine (roperand_114 _ _ _ _ _ _ _ _ _ _ _).mono ?_; rintro e w4 ⟨rfl, hw4⟩))
  have hw4' : Below w.heap.size w w4 := below_on hw (below_on (Below.refl _ _).drew hw4)
  clear KL hw4 hw x2 x3 y0 y1 y2
  generalize bel a 6 = p0 at *
  generalize bel b 6 = p1 at *
  generalize bel c 6 = p2 at *
  cases p0 <;> cases p1
  all_goals
    go_wp2
    go_ret
    exact ⟨ret_bool (by rw [HB.out]; rfl), hw4'⟩

end Go.Proofs.YtlheloogmgmjnaaGreat
