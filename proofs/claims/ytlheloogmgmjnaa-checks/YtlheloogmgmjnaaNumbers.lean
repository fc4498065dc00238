import Derived.Test.YtlheloogmgmjnaaProg
import Derived.Test.YtlheloogmgmjnaaRow
import Derived.Deep.DeepMust
namespace Go.Proofs.Ytlheloogmgmjnaa
open Go.RowKit

theorem Try.info3 : (Try.prog.info? 3).map (fun i => (i.zero, i.size, i.bytes)) = some (some (.int .i64 0), 1, 8) := by kernel_rfl
theorem Try.size3 : (Try.prog.info? 3).map (·.size) = some 1 := by kernel_rfl
theorem Try.info51 : (Try.prog.info? 51).map (fun i => (i.zero, i.size, i.bytes)) = some (some (.agg #[.int .i64 0, .int .i64 0, .int .i64 0, .int .i64 0]), 4, 32) := by kernel_rfl
theorem Try.size51 : (Try.prog.info? 51).map (·.size) = some 4 := by kernel_rfl

def ints (xs : List Int) : List Value := xs.map (.int .i64)

theorem made_int (n : Nat) : (madeCells (Value.int IntKind.i64 0).cells (n * 1)).toList = List.replicate n (.int .i64 0) := by
  rw [Nat.mul_one]; exact toList_madeCells_one _ _

theorem ints_oneCell' (xs : List Int) : ∀ v ∈ ints xs, v.oneCell' = true := by
  intro v hv; simp [ints] at hv; obtain ⟨z, _, rfl⟩ := hv; rfl

theorem ints_get (xs : List Int) (j : Nat) (v : Value) (h : (ints xs)[j]? = some v) : j < xs.length ∧ v = .int .i64 (xs.getD j 0) := by
  simp [ints] at h
  obtain ⟨z, hz, rfl⟩ := h
  have hj : j < xs.length := by
    rcases Nat.lt_or_ge j xs.length with h | h
    · exact h
    · rw [List.getElem?_eq_none h] at hz; cases hz
  exact ⟨hj, by simp [List.getD, hz]⟩

theorem IntsAt.src {w : World} {ao : Option Addr} {xs : List Int} (h : IntsAt w ao xs) (h0 : 0 < (ints xs).length) : ∃ ad, ao = some ad ∧ ∀ j v, (ints xs)[j]? = some v → w.cell? (ad.add j) = some v := by
  obtain ⟨b, o, rfl, hc, _⟩ := h.at (k := 0) (by simpa [ints] using h0)
  refine ⟨_, rfl, fun j v hv => ?_⟩
  obtain ⟨hj, rfl⟩ := ints_get xs j v hv
  rw [addr_add]; exact hc j hj

/-- The two places behind, k of them written. -/
def tail2 (k : Nat) : List Value := List.replicate k (.int .i64 77) ++ List.replicate (2 - k) (.int .i64 0)

theorem tail2_step (xs : List Int) (k : Nat) (hk : k < 2) : (ints xs ++ tail2 k).set (xs.length + k) (.int .i64 77) = ints xs ++ tail2 (k + 1) := by
  rw [List.set_append_right _ _ (by simp [ints])]
  congr 1
  have : k = 0 ∨ k = 1 := by omega
  rcases this with rfl | rfl <;> simp [ints, tail2, List.replicate]

theorem tail2_there (xs : List Int) (k : Nat) (hk : k < 2) : (ints xs ++ tail2 k)[xs.length + k]? = some (.int .i64 0) := by
  rw [List.getElem?_append_right (by simp [ints])]
  have : k = 0 ∨ k = 1 := by omega
  rcases this with rfl | rfl <;> simp [ints, tail2, List.replicate]

set_option maxHeartbeats 1000000 in
set_option maxRecDepth 100000 in
theorem numbers_any (ao : Option Addr) (cap : Nat) (xs : List Int) (w : World) (hx : IntsAt w ao xs) (hl : xs.length * 8 ≤ 140737488351232) :
    Calls Try.prog 16 #[.slice ao xs.length cap] w fun e w' => ∃ g, e = .returned (.slice (some ⟨g, 0, none⟩) xs.length (xs.length + 2)) ∧ w.heap.size ≤ g ∧ RowAt w' g 3 (ints (xs ++ [77, 77])) ∧ Below w.heap.size w w' := by
  obtain ⟨i0, hi, hz0, hz1, hz2⟩ := info_parts Try.info3
  have HB := hide (show i0.bytes * (xs.length + 2) ≤ 281474976710656 by rw [hz2]; omega)
  have HM := hide (show xs.length + 2 ≤ maxLen by unfold maxLen; omega)
  have HX := hide hx
  clear hx
  go_enter Try.func16, Try.ntmps16
  go_wp2_with (at_make; refine wpList_make_rowAt _ rfl (.tmp 7) (.tmp 7) 22 rfl 3 i0 (.int .i64 0) 1 Try.underlying22 hi hz0 hz1 .i64 .i64 _ _ (xs.length + 2) rfl rfl (by omega) (by omega) HB.out HM.out ?_; intro w1 hr1 hb1; rw [made_int] at hr1)
  obtain ⟨w2, hrun, hr2, hb2⟩ := run_copy_ex (P := Try.prog) w1 22 22 3 3 1 Try.underlying22 Try.size3 (some ⟨w.heap.size, 0, none⟩) ao (xs.length + 2) (xs.length + 2) xs.length cap w.heap.size _ 3 hr1 (ints xs)
    (by simp [ints]) (by decide) (fun h0 => ⟨rfl, (HX.out.below hb1).src h0⟩) (by simp [ints]) (ints_oneCell' xs) w.heap.size w hb1 (Nat.le_refl _)
  rw [hrun]
  have e0 : ints xs ++ List.drop (ints xs).length (List.replicate (xs.length + 2) (.int .i64 0)) = ints xs ++ tail2 0 := by simp [ints, tail2]
  rw [e0] at hr2
  clear hrun hr1 hb1 e0 HB HM hi hz0 hz1 hz2 HX
  go_wp2
  go_loopw [4] (fun t wr => ∃ k : Nat, k ≤ 2 ∧ t = .int .i64 k ∧ RowAt wr w.heap.size 3 (ints xs ++ tail2 k) ∧ Below w.heap.size w wr) (fun t _ => 2 - (intOf t).toNat)
  case atStart => exact ⟨0, by omega, rfl, hr2, hb2⟩
  case round =>
    obtain ⟨k, hk, rfl, hr, hb⟩ := hrel
    by_cases hlt : k < 2
    · have hc := hr.cell' (tail2_there xs k hlt)
      have hf := hr.frozen (xs.length + k)
      have hr' := hr.set (xs.length + k) (.int .i64 77)
      rw [tail2_step xs k hlt] at hr'
      have HR := hide hr'
      clear hr' hr
      go_wp2
      go_roundw
      case rel => exact ⟨k + 1, by omega, by go_num, HR.out, hb.setCell (Nat.le_refl _) _⟩
      case measure => simp [intOf]; omega
    · go_wp2
      go_ret
      have : k = 2 := by omega
      subst this
      exact ⟨w.heap.size, rfl, Nat.le_refl _, by simpa [ints, tail2, List.replicate] using hr, hb⟩

/-- The cells of instructions. -/
def insCells (cs : List Ins) : List Value := cs.flatMap fun x => [.int .i64 x.op, .int .i64 x.a, .int .i64 x.b, .int .i64 x.c]

theorem insCells_length (cs : List Ins) : (insCells cs).length = cs.length * 4 := by
  induction cs with
  | nil => rfl
  | cons x r ih => simp [insCells] at *; omega

theorem insCells_oneCell (cs : List Ins) : ∀ v ∈ insCells cs, v.oneCell' = true := by
  intro v hv; simp [insCells] at hv; obtain ⟨z, _, h | h | h | h⟩ := hv <;> subst h <;> rfl

theorem insCells_cons (x : Ins) (cs : List Ins) : insCells (x :: cs) = .int .i64 x.op :: .int .i64 x.a :: .int .i64 x.b :: .int .i64 x.c :: insCells cs := by simp [insCells]

theorem insCells_append (a b : List Ins) : insCells (a ++ b) = insCells a ++ insCells b := by simp [insCells]

theorem insCells_get (cs : List Ins) : ∀ i, i < cs.length → (insCells cs)[i * 4]? = some (.int .i64 (cs.getD i Ins.zero).op) ∧ (insCells cs)[i * 4 + 1]? = some (.int .i64 (cs.getD i Ins.zero).a) ∧
    (insCells cs)[i * 4 + 2]? = some (.int .i64 (cs.getD i Ins.zero).b) ∧ (insCells cs)[i * 4 + 3]? = some (.int .i64 (cs.getD i Ins.zero).c) := by
  induction cs with
  | nil => intro i hi; simp at hi
  | cons x r ih =>
    intro i hi
    rw [insCells_cons]
    cases i with
    | zero => simp
    | succ i =>
      have := ih i (by simpa using hi)
      rw [show (i + 1) * 4 = i * 4 + 4 by omega]
      simpa using this

theorem InsAt.src {w : World} {ao : Option Addr} {xs : List Ins} (h : InsAt w ao xs) (h0 : 0 < (insCells xs).length) : ∃ ad, ao = some ad ∧ ∀ j v, (insCells xs)[j]? = some v → w.cell? (ad.add j) = some v := by
  obtain ⟨b, o, rfl, hc, _⟩ := h.at (k := 0) (by rw [insCells_length] at h0; omega)
  refine ⟨_, rfl, fun j v hv => ?_⟩
  have hj : j < (insCells xs).length := (List.getElem?_eq_some_iff.1 hv).1
  rw [insCells_length] at hj
  obtain ⟨g0, g1, g2, g3⟩ := insCells_get xs (j / 4) (by omega)
  obtain ⟨c0, c1, c2, c3⟩ := hc (j / 4) (by omega)
  rw [addr_add]
  have hm : j = j / 4 * 4 ∨ j = j / 4 * 4 + 1 ∨ j = j / 4 * 4 + 2 ∨ j = j / 4 * 4 + 3 := by omega
  rcases hm with h | h | h | h
  · rw [← h] at g0 c0; rw [g0] at hv; cases hv; exact c0
  · rw [← h] at g1; rw [g1] at hv; cases hv; rw [show o + j = o + j / 4 * 4 + 1 by omega]; exact c1
  · rw [← h] at g2; rw [g2] at hv; cases hv; rw [show o + j = o + j / 4 * 4 + 2 by omega]; exact c2
  · rw [← h] at g3; rw [g3] at hv; cases hv; rw [show o + j = o + j / 4 * 4 + 3 by omega]; exact c3

theorem insCells_set (cs : List Ins) (x : Ins) : ∀ i, i < cs.length →
    ((((insCells cs).set (i * 4) (.int .i64 x.op)).set (i * 4 + 1) (.int .i64 x.a)).set (i * 4 + 2) (.int .i64 x.b)).set (i * 4 + 3) (.int .i64 x.c) = insCells (cs.set i x) := by
  induction cs with
  | nil => intro i hi; simp at hi
  | cons y r ih =>
    intro i hi
    cases i with
    | zero => simp [insCells_cons]
    | succ i =>
      have := ih i (by simpa using hi)
      rw [insCells_cons, List.set_cons_succ, insCells_cons, show (i + 1) * 4 = i * 4 + 4 by omega]
      simpa using this

/-- The two instructions behind, k of them written. -/
def ins77 : Ins := ⟨77, 0, 0, 0⟩
def tailX (k : Nat) : List Ins := List.replicate k ins77 ++ List.replicate (2 - k) Ins.zero

theorem tailX_step (xs : List Ins) (k : Nat) (hk : k < 2) : (xs ++ tailX k).set (xs.length + k) ins77 = xs ++ tailX (k + 1) := by
  rw [List.set_append_right _ _ (by omega)]
  congr 1
  have : k = 0 ∨ k = 1 := by omega
  rcases this with rfl | rfl <;> simp [tailX, List.replicate]

theorem tailX_length (k : Nat) (hk : k ≤ 2) : (tailX k).length = 2 := by simp [tailX]; omega

theorem made_instr (n : Nat) : (madeCells (Value.agg #[.int .i64 0, .int .i64 0, .int .i64 0, .int .i64 0]).cells (n * 4)).toList = List.replicate (n * 4) (.int .i64 0) := by
  rw [List.eq_replicate_iff]
  refine ⟨by simp [madeCells], ?_⟩
  intro v hv
  simp only [madeCells, Value.cells, Array.toList_map, List.mem_map] at hv
  obtain ⟨i, _, rfl⟩ := hv
  have : i % 4 = 0 ∨ i % 4 = 1 ∨ i % 4 = 2 ∨ i % 4 = 3 := by omega
  rcases this with h | h | h | h <;> simp [h]

set_option maxHeartbeats 1000000 in
set_option maxRecDepth 100000 in
theorem code_any (ao : Option Addr) (cap : Nat) (xs : List Ins) (w : World) (hx : InsAt w ao xs) (hl : xs.length * 32 ≤ 140737488351232) :
    Calls Try.prog 17 #[.slice ao xs.length cap] w fun e w' => ∃ g, e = .returned (.slice (some ⟨g, 0, none⟩) xs.length (xs.length + 2)) ∧ w.heap.size ≤ g ∧ RowAt w' g 51 (insCells (xs ++ [ins77, ins77])) ∧ Below w.heap.size w w' := by
  obtain ⟨i0, hi, hz0, hz1, hz2⟩ := info_parts Try.info51
  have HB := hide (show i0.bytes * (xs.length + 2) ≤ 281474976710656 by rw [hz2]; omega)
  have HM := hide (show xs.length + 2 ≤ maxLen by unfold maxLen; omega)
  have HX := hide hx
  clear hx
  go_enter Try.func17, Try.ntmps17
  go_wp2_with (at_make; refine wpList_make_rowAt _ rfl (.tmp 7) (.tmp 7) 23 rfl 51 i0 (.agg #[.int .i64 0, .int .i64 0, .int .i64 0, .int .i64 0]) 4 Try.underlying23 hi hz0 hz1 .i64 .i64 _ _ (xs.length + 2) rfl rfl (by omega) (by omega) HB.out HM.out ?_; intro w1 hr1 hb1; rw [made_instr] at hr1)
  obtain ⟨w2, hrun, hr2, hb2⟩ := run_copy_ex (P := Try.prog) w1 23 23 3 51 4 Try.underlying23 Try.size51 (some ⟨w.heap.size, 0, none⟩) ao (xs.length + 2) (xs.length + 2) xs.length cap w.heap.size _ 51 hr1 (insCells xs)
    (by simp [insCells_length]) (by decide) (fun h0 => ⟨rfl, (HX.out.below hb1).src h0⟩) (by simp [insCells_length]; omega) (insCells_oneCell xs) w.heap.size w hb1 (Nat.le_refl _)
  rw [hrun]
  have e0 : insCells xs ++ List.drop (insCells xs).length (List.replicate ((xs.length + 2) * 4) (.int .i64 0)) = insCells (xs ++ tailX 0) := by
    rw [insCells_append, insCells_length, List.drop_replicate, show (xs.length + 2) * 4 - xs.length * 4 = 8 by omega]; rfl
  rw [e0] at hr2
  clear hrun hr1 hb1 e0 HB HM hi hz0 hz1 hz2 HX
  go_wp2
  go_loopw [4] (fun t wr => ∃ k : Nat, k ≤ 2 ∧ t = .int .i64 k ∧ RowAt wr w.heap.size 51 (insCells (xs ++ tailX k)) ∧ Below w.heap.size w wr) (fun t _ => 2 - (intOf t).toNat)
  case atStart => exact ⟨0, by omega, rfl, hr2, hb2⟩
  case round =>
    obtain ⟨k, hk, rfl, hr, hb⟩ := hrel
    by_cases hlt : k < 2
    · have hin : xs.length + k < (xs ++ tailX k).length := by rw [List.length_append, tailX_length k hk]; omega
      obtain ⟨g0, g1, g2, g3⟩ := insCells_get (xs ++ tailX k) (xs.length + k) hin
      generalize (xs ++ tailX k).getD (xs.length + k) Ins.zero = y at *
      replace g0 := hr.cell' g0
      replace g1 := hr.cell' g1
      replace g2 := hr.cell' g2
      replace g3 := hr.cell' g3
      have hf := hr.frozen
      have hr' := (((hr.set ((xs.length + k) * 4) (.int .i64 77)).set ((xs.length + k) * 4 + 1) (.int .i64 0)).set ((xs.length + k) * 4 + 2) (.int .i64 0)).set ((xs.length + k) * 4 + 3) (.int .i64 0)
      have e1 := insCells_set (xs ++ tailX k) ins77 (xs.length + k) hin
      simp only [ins77] at e1
      rw [e1] at hr'
      have e2 := tailX_step xs k hlt
      simp only [ins77] at e2
      rw [e2] at hr'
      have HR := hide hr'
      clear hr' hr e1 e2 hin
      go_wp2
      go_roundw
      case rel => exact ⟨k + 1, by omega, by go_num, HR.out, (((hb.setCell (Nat.le_refl _) _).setCell (Nat.le_refl _) _).setCell (Nat.le_refl _) _).setCell (Nat.le_refl _) _⟩
      case measure => simp [intOf]; omega
    · go_wp2
      go_ret
      have : k = 2 := by omega
      subst this
      exact ⟨w.heap.size, rfl, Nat.le_refl _, by simpa [tailX, List.replicate] using hr, hb⟩

end Go.Proofs.Ytlheloogmgmjnaa
