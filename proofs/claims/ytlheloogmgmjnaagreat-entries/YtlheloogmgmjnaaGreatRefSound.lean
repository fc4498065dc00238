import Derived.Test.YtlheloogmgmjnaaGreatRefSoundA
import Derived.Test.YtlheloogmgmjnaaGreatRefSoundB
import Derived.Test.YtlheloogmgmjnaaGreatRefSoundC
namespace Go.Proofs.YtlheloogmgmjnaaGreat
open Go.RowKit

set_option maxHeartbeats 1000000 in
theorem rSound_no (op a b c : Int) (ra wa ca : Option Addr) (rn rc wn wc cn cc : Nat) (w : World) (h : op < 1 ∨ 11 < op) :
    Calls Tryz.prog 155 #[.agg #[.int .i64 op, .int .i64 a, .int .i64 b, .int .i64 c], .agg #[.slice ra rn rc, .slice wa wn wc, .slice ca cn cc]] w fun e w' => e = .returned (.bool (soundB ⟨op, a, b, c⟩ rn wn)) ∧ Below w.heap.size w w' := by
  have HB := hide (show soundB ⟨op, a, b, c⟩ rn wn = false by
    simp only [soundB]
    rw [if_neg (by omega), if_neg (by omega), if_neg (by omega), if_neg (by omega), if_neg (by omega), if_neg (by omega), if_neg (by omega)])
  go_enter Tryz.func155, Tryz.ntmps155
  go_wp2_with fail
  refine (rshape_no _ _ h).mono ?_
  rintro e w1 ⟨rfl, hw1⟩
  have hw := below_alloc (below_alloc hw1)
  clear hw1
  go_wp2
  go_ret
  exact ⟨ret_bool HB.out.symm, hw⟩

theorem rSound_any (x : Ins) (ra wa ca : Option Addr) (rn rc wn wc cn cc : Nat) (w : World) :
    Calls Tryz.prog 155 #[x.val, .agg #[.slice ra rn rc, .slice wa wn wc, .slice ca cn cc]] w fun e w' => e = .returned (.bool (soundB x rn wn)) ∧ Below w.heap.size w w' := by
  obtain ⟨op, a, b, c⟩ := x
  by_cases h : op < 1 ∨ 11 < op
  · exact rSound_no op a b c ra wa ca rn rc wn wc cn cc w h
  have : op = 1 ∨ op = 2 ∨ op = 3 ∨ op = 4 ∨ op = 5 ∨ op = 6 ∨ op = 7 ∨ op = 8 ∨ op = 9 ∨ op = 10 ∨ op = 11 := by omega
  rcases this with rfl | rfl | rfl | rfl | rfl | rfl | rfl | rfl | rfl | rfl | rfl
  · exact rSound_1 a b c ra wa ca rn rc wn wc cn cc w
  · exact rSound_2 a b c ra wa ca rn rc wn wc cn cc w
  · exact rSound_3 a b c ra wa ca rn rc wn wc cn cc w
  · exact rSound_4 a b c ra wa ca rn rc wn wc cn cc w
  · exact rSound_5 a b c ra wa ca rn rc wn wc cn cc w
  · exact rSound_6 a b c ra wa ca rn rc wn wc cn cc w
  · exact rSound_7 a b c ra wa ca rn rc wn wc cn cc w
  · exact rSound_8 a b c ra wa ca rn rc wn wc cn cc w
  · exact rSound_9 a b c ra wa ca rn rc wn wc cn cc w
  · exact rSound_10 a b c ra wa ca rn rc wn wc cn cc w
  · exact rSound_11 a b c ra wa ca rn rc wn wc cn cc w

end Go.Proofs.YtlheloogmgmjnaaGreat
