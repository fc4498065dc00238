import Derived.Test.YtlheloogmgmjnaaGreatProg
import Derived.Test.YtlheloogmgmjnaaGreatT03
import Derived.Deep.DeepMust
import Derived.Test.YtlheloogmgmjnaaGreatT02
namespace Go.Proofs.YtlheloogmgmjnaaGreat
open Go.RowKit

theorem Tryz.info3 : (Tryz.prog.info? 3).map (fun i => (i.zero, i.size, i.bytes)) = some (some (.int .i64 0), 1, 8) := by kernel_rfl
theorem Tryz.size3 : (Tryz.prog.info? 3).map (·.size) = some 1 := by kernel_rfl
theorem Tryz.info114 : (Tryz.prog.info? 114).map (fun i => (i.zero, i.size, i.bytes)) = some (some (.agg #[.int .i64 0, .int .i64 0, .int .i64 0, .int .i64 0]), 4, 32) := by kernel_rfl
theorem Tryz.size114 : (Tryz.prog.info? 114).map (·.size) = some 4 := by kernel_rfl

def ints (xs : List Int) : List Value := xs.map (.int .i64)

theorem made_int (n : Nat) : (madeCells (Value.int IntKind.i64 0).cells (n * 1)).toList = List.replicate n (.int .i64 0) := by
  rw [Nat.mul_one]; exact toList_madeCells_one _ _

theorem ints_oneCell' (xs : List Int) : ∀ v ∈ ints xs, v.oneCell' = true := by
  intro v hv; simp [ints] at hv; obtain ⟨z, _, rfl⟩ := hv; rfl

theorem ints_get (xs : List Int) (j : Nat) (v : Value) (h : (ints xs)[j]? = some v) : j < xs.length ∧ v = .int .i64 (xs.getD j 0) := by
  simp [ints] at h
  obtain ⟨z, hz, rfl⟩ := h
  have hj : j < xs.length := by
    rcases Nat.lt_or_ge j xs.length with h | h
    · exact h
    · rw [List.getElem?_eq_none h] at hz; cases hz
  exact ⟨hj, by simp [List.getD, hz]⟩

theorem IntsAt.src {w : World} {ao : Option Addr} {xs : List Int} (h : IntsAt w ao xs) (h0 : 0 < (ints xs).length) : ∃ ad, ao = some ad ∧ ∀ j v, (ints xs)[j]? = some v → w.cell? (ad.add j) = some v := by
  obtain ⟨b, o, rfl, hc, _⟩ := h.at (k := 0) (by simpa [ints] using h0)
  refine ⟨_, rfl, fun j v hv => ?_⟩
  obtain ⟨hj, rfl⟩ := ints_get xs j v hv
  rw [addr_add]; exact hc j hj

/-- The two places behind, k of them written. -/
def tail2 (k : Nat) : List Value := List.replicate k (.int .i64 77) ++ List.replicate (2 - k) (.int .i64 0)

theorem tail2_step (xs : List Int) (k : Nat) (hk : k < 2) : (ints xs ++ tail2 k).set (xs.length + k) (.int .i64 77) = ints xs ++ tail2 (k + 1) := by
  rw [List.set_append_right _ _ (by simp [ints])]
  congr 1
  have : k = 0 ∨ k = 1 := by omega
  rcases this with rfl | rfl <;> simp [ints, tail2, List.replicate]

theorem tail2_there (xs : List Int) (k : Nat) (hk : k < 2) : (ints xs ++ tail2 k)[xs.length + k]? = some (.int .i64 0) := by
  rw [List.getElem?_append_right (by simp [ints])]
  have : k = 0 ∨ k = 1 := by omega
  rcases this with rfl | rfl <;> simp [ints, tail2, List.replicate]

set_option maxHeartbeats 1000000 in
set_option maxRecDepth 100000 in
theorem numbers_any (ao : Option Addr) (cap : Nat) (xs : List Int) (w : World) (hx : IntsAt w ao xs) (hl : xs.length * 8 ≤ 140737488351232) :
    Calls Tryz.prog 111 #[.slice ao xs.length cap] w fun e w' => ∃ g, e = .returned (.slice (some ⟨g, 0, none⟩) xs.length (xs.length + 2)) ∧ w.heap.size ≤ g ∧ RowAt w' g 3 (ints (xs ++ [77, 77])) ∧ Below w.heap.size w w' := by
  obtain ⟨i0, hi, hz0, hz1, hz2⟩ := info_parts Tryz.info3
  have HB := hide (show i0.bytes * (xs.length + 2) ≤ 281474976710656 by rw [hz2]; omega)
  have HM := hide (show xs.length + 2 ≤ maxLen by unfold maxLen; omega)
  have HX := hide hx
  clear hx
  go_enter Tryz.func111, Tryz.ntmps111
  go_wp2_with (at_make; refine wpList_make_rowAt _ rfl (.tmp 7) (.tmp 7) 30 rfl 3 i0 (.int .i64 0) 1 Tryz.underlying30 hi hz0 hz1 .i64 .i64 _ _ (xs.length + 2) rfl rfl (by omega) (by omega) HB.out HM.out ?_; intro w1 hr1 hb1; rw [made_int] at hr1)
  obtain ⟨w2, hrun, hr2, hb2⟩ := run_copy_ex (P := Tryz.prog) w1 30 30 3 3 1 Tryz.underlying30 Tryz.size3 (some ⟨w.heap.size, 0, none⟩) ao (xs.length + 2) (xs.length + 2) xs.length cap w.heap.size _ 3 hr1 (ints xs)
    (by simp [ints]) (by decide) (fun h0 => ⟨rfl, (HX.out.below hb1).src h0⟩) (by simp [ints]) (ints_oneCell' xs) w.heap.size w hb1 (Nat.le_refl _)
  rw [hrun]
  have e0 : ints xs ++ List.drop (ints xs).length (List.replicate (xs.length + 2) (.int .i64 0)) = ints xs ++ tail2 0 := by simp [ints, tail2]
  rw [e0] at hr2
  clear hrun hr1 hb1 e0 HB HM hi hz0 hz1 hz2 HX
  go_wp2
  go_loopw [4] (fun t wr => ∃ k : Nat, k ≤ 2 ∧ t = .int .i64 k ∧ RowAt wr w.heap.size 3 (ints xs ++ tail2 k) ∧ Below w.heap.size w wr) (fun t _ => 2 - (intOf t).toNat)
  case atStart => exact ⟨0, by omega, rfl, hr2, hb2⟩
  case round =>
    obtain ⟨k, hk, rfl, hr, hb⟩ := hrel
    by_cases hlt : k < 2
    · have hc := hr.cell' (tail2_there xs k hlt)
      have hf := hr.frozen (xs.length + k)
      have hr' := hr.set (xs.length + k) (.int .i64 77)
      rw [tail2_step xs k hlt] at hr'
      have HR := hide hr'
      clear hr' hr
      go_wp2
      go_roundw
      case rel => exact ⟨k + 1, by omega, by go_num, HR.out, hb.setCell (Nat.le_refl _) _⟩
      case measure => simp [intOf]; omega
    · go_wp2
      go_ret
      have : k = 2 := by omega
      subst this
      exact ⟨w.heap.size, rfl, Nat.le_refl _, by simpa [ints, tail2, List.replicate] using hr, hb⟩

/-- The cells of instructions. -/
def insCells (cs : List Ins) : List Value := cs.flatMap fun x => [.int .i64 x.op, .int .i64 x.a, .int .i64 x.b, .int .i64 x.c]

theorem insCells_length (cs : List Ins) : (insCells cs).length = cs.length * 4 := by
  induction cs with
  | nil => rfl
  | cons x r ih => simp [insCells] at *; omega

theorem insCells_oneCell (cs : List Ins) : ∀ v ∈ insCells cs, v.oneCell' = true := by
  intro v hv; simp [insCells] at hv; obtain ⟨z, _, h | h | h | h⟩ := hv <;> subst h <;> rfl

theorem insCells_cons (x : Ins) (cs : List Ins) : insCells (x :: cs) = .int .i64 x.op :: .int .i64 x.a :: .int .i64 x.b :: .int .i64 x.c :: insCells cs := by simp [insCells]

theorem insCells_append (a b : List Ins) : insCells (a ++ b) = insCells a ++ insCells b := by simp [insCells]

theorem insCells_get (cs : List Ins) : ∀ i, i < cs.length → (insCells cs)[i * 4]? = some (.int .i64 (cs.getD i Ins.zero).op) ∧ (insCells cs)[i * 4 + 1]? = some (.int .i64 (cs.getD i Ins.zero).a) ∧
    (insCells cs)[i * 4 + 2]? = some (.int .i64 (cs.getD i Ins.zero).b) ∧ (insCells cs)[i * 4 + 3]? = some (.int .i64 (cs.getD i Ins.zero).c) := by
  induction cs with
  | nil => intro i hi; simp at hi
  | cons x r ih =>
    intro i hi
    rw [insCells_cons]
    cases i with
    | zero => simp
    | succ i =>
      have := ih i (by simpa using hi)
      rw [show (i + 1) * 4 = i * 4 + 4 by omega]
      simpa using this

theorem InsAt.src {w : World} {ao : Option Addr} {xs : List Ins} (h : InsAt w ao xs) (h0 : 0 < (insCells xs).length) : ∃ ad, ao = some ad ∧ ∀ j v, (insCells xs)[j]? = some v → w.cell? (ad.add j) = some v := by
  obtain ⟨b, o, rfl, hc, _⟩ := h.at (k := 0) (by rw [insCells_length] at h0; omega)
  refine ⟨_, rfl, fun j v hv => ?_⟩
  have hj : j < (insCells xs).length := (List.getElem?_eq_some_iff.1 hv).1
  rw [insCells_length] at hj
  obtain ⟨g0, g1, g2, g3⟩ := insCells_get xs (j / 4) (by omega)
  obtain ⟨c0, c1, c2, c3⟩ := hc (j / 4) (by omega)
  rw [addr_add]
  have hm : j = j / 4 * 4 ∨ j = j / 4 * 4 + 1 ∨ j = j / 4 * 4 + 2 ∨ j = j / 4 * 4 + 3 := by omega
  rcases hm with h | h | h | h
  · rw [← h] at g0 c0; rw [g0] at hv; cases hv; exact c0
  · rw [← h] at g1; rw [g1] at hv; cases hv; rw [show o + j = o + j / 4 * 4 + 1 by omega]; exact c1
  · rw [← h] at g2; rw [g2] at hv; cases hv; rw [show o + j = o + j / 4 * 4 + 2 by omega]; exact c2
  · rw [← h] at g3; rw [g3] at hv; cases hv; rw [show o + j = o + j / 4 * 4 + 3 by omega]; exact c3

theorem insCells_set (cs : List Ins) (x : Ins) : ∀ i, i < cs.length →
    ((((insCells cs).set (i * 4) (.int .i64 x.op)).set (i * 4 + 1) (.int .i64 x.a)).set (i * 4 + 2) (.int .i64 x.b)).set (i * 4 + 3) (.int .i64 x.c) = insCells (cs.set i x) := by
  induction cs with
  | nil => intro i hi; simp at hi
  | cons y r ih =>
    intro i hi
    cases i with
    | zero => simp [insCells_cons]
    | succ i =>
      have := ih i (by simpa using hi)
      rw [insCells_cons, List.set_cons_succ, insCells_cons, show (i + 1) * 4 = i * 4 + 4 by omega]
      simpa using this

/-- The two instructions behind, k of them written. -/
def ins77 : Ins := ⟨77, 0, 0, 0⟩
def tailX (k : Nat) : List Ins := List.replicate k ins77 ++ List.replicate (2 - k) Ins.zero

theorem tailX_step (xs : List Ins) (k : Nat) (hk : k < 2) : (xs ++ tailX k).set (xs.length + k) ins77 = xs ++ tailX (k + 1) := by
  rw [List.set_append_right _ _ (by omega)]
  congr 1
  have : k = 0 ∨ k = 1 := by omega
  rcases this with rfl | rfl <;> simp [tailX, List.replicate]

theorem tailX_length (k : Nat) (hk : k ≤ 2) : (tailX k).length = 2 := by simp [tailX]; omega

theorem made_instr (n : Nat) : (madeCells (Value.agg #[.int .i64 0, .int .i64 0, .int .i64 0, .int .i64 0]).cells (n * 4)).toList = List.replicate (n * 4) (.int .i64 0) := by
  rw [List.eq_replicate_iff]
  refine ⟨by simp [madeCells], ?_⟩
  intro v hv
  simp only [madeCells, Value.cells, Array.toList_map, List.mem_map] at hv
  obtain ⟨i, _, rfl⟩ := hv
  have : i % 4 = 0 ∨ i % 4 = 1 ∨ i % 4 = 2 ∨ i % 4 = 3 := by omega
  rcases this with h | h | h | h <;> simp [h]

set_option maxHeartbeats 1000000 in
set_option maxRecDepth 100000 in
theorem code_any (ao : Option Addr) (cap : Nat) (xs : List Ins) (w : World) (hx : InsAt w ao xs) (hl : xs.length * 32 ≤ 140737488351232) :
    Calls Tryz.prog 112 #[.slice ao xs.length cap] w fun e w' => ∃ g, e = .returned (.slice (some ⟨g, 0, none⟩) xs.length (xs.length + 2)) ∧ w.heap.size ≤ g ∧ RowAt w' g 114 (insCells (xs ++ [ins77, ins77])) ∧ Below w.heap.size w w' := by
  obtain ⟨i0, hi, hz0, hz1, hz2⟩ := info_parts Tryz.info114
  have HB := hide (show i0.bytes * (xs.length + 2) ≤ 281474976710656 by rw [hz2]; omega)
  have HM := hide (show xs.length + 2 ≤ maxLen by unfold maxLen; omega)
  have HX := hide hx
  clear hx
  go_enter Tryz.func112, Tryz.ntmps112
  go_wp2_with (at_make; refine wpList_make_rowAt _ rfl (.tmp 7) (.tmp 7) 31 rfl 114 i0 (.agg #[.int .i64 0, .int .i64 0, .int .i64 0, .int .i64 0]) 4 Tryz.underlying31 hi hz0 hz1 .i64 .i64 _ _ (xs.length + 2) rfl rfl (by omega) (by omega) HB.out HM.out ?_; intro w1 hr1 hb1; rw [made_instr] at hr1)
  obtain ⟨w2, hrun, hr2, hb2⟩ := run_copy_ex (P := Tryz.prog) w1 31 31 3 114 4 Tryz.underlying31 Tryz.size114 (some ⟨w.heap.size, 0, none⟩) ao (xs.length + 2) (xs.length + 2) xs.length cap w.heap.size _ 114 hr1 (insCells xs)
    (by simp [insCells_length]) (by decide) (fun h0 => ⟨rfl, (HX.out.below hb1).src h0⟩) (by simp [insCells_length]; omega) (insCells_oneCell xs) w.heap.size w hb1 (Nat.le_refl _)
  rw [hrun]
  have e0 : insCells xs ++ List.drop (insCells xs).length (List.replicate ((xs.length + 2) * 4) (.int .i64 0)) = insCells (xs ++ tailX 0) := by
    rw [insCells_append, insCells_length, List.drop_replicate, show (xs.length + 2) * 4 - xs.length * 4 = 8 by omega]; rfl
  rw [e0] at hr2
  clear hrun hr1 hb1 e0 HB HM hi hz0 hz1 hz2 HX
  go_wp2
  go_loopw [4] (fun t wr => ∃ k : Nat, k ≤ 2 ∧ t = .int .i64 k ∧ RowAt wr w.heap.size 114 (insCells (xs ++ tailX k)) ∧ Below w.heap.size w wr) (fun t _ => 2 - (intOf t).toNat)
  case atStart => exact ⟨0, by omega, rfl, hr2, hb2⟩
  case round =>
    obtain ⟨k, hk, rfl, hr, hb⟩ := hrel
    by_cases hlt : k < 2
    · have hin : xs.length + k < (xs ++ tailX k).length := by rw [List.length_append, tailX_length k hk]; omega
      obtain ⟨g0, g1, g2, g3⟩ := insCells_get (xs ++ tailX k) (xs.length + k) hin
      generalize (xs ++ tailX k).getD (xs.length + k) Ins.zero = y at *
      replace g0 := hr.cell' g0
      replace g1 := hr.cell' g1
      replace g2 := hr.cell' g2
      replace g3 := hr.cell' g3
      have hf := hr.frozen
      have hr' := (((hr.set ((xs.length + k) * 4) (.int .i64 77)).set ((xs.length + k) * 4 + 1) (.int .i64 0)).set ((xs.length + k) * 4 + 2) (.int .i64 0)).set ((xs.length + k) * 4 + 3) (.int .i64 0)
      have e1 := insCells_set (xs ++ tailX k) ins77 (xs.length + k) hin
      simp only [ins77] at e1
      rw [e1] at hr'
      have e2 := tailX_step xs k hlt
      simp only [ins77] at e2
      rw [e2] at hr'
      have HR := hide hr'
      clear hr' hr e1 e2 hin
      go_wp2
      go_roundw
      case rel => exact ⟨k + 1, by omega, by go_num, HR.out, (((hb.setCell (Nat.le_refl _) _).setCell (Nat.le_refl _) _).setCell (Nat.le_refl _) _).setCell (Nat.le_refl _) _⟩
      case measure => simp [intOf]; omega
    · go_wp2
      go_ret
      have : k = 2 := by omega
      subst this
      exact ⟨w.heap.size, rfl, Nat.le_refl _, by simpa [tailX, List.replicate] using hr, hb⟩

end Go.Proofs.YtlheloogmgmjnaaGreat

namespace Go.Proofs.YtlheloogmgmjnaaGreat
open Go.RowKit

theorem ints_getD (xs : List Int) (k : Nat) (hk : k < xs.length) : (ints xs)[k]? = some (.int .i64 (xs.getD k 0)) := by
  simp [ints, List.getD, hk]

set_option maxHeartbeats 1000000 in
set_option maxRecDepth 100000 in
theorem sameNumbers_any (g : Nat) (ao : Option Addr) (cap : Nat) (xs : List Int) (w : World) (hx : IntsAt w ao xs) (hr : RowAt w g 3 (ints (xs ++ [77, 77]))) (hl : xs.length * 8 ≤ 140737488351232) :
    Calls Tryz.prog 113 #[.slice (some ⟨g, 0, none⟩) xs.length (xs.length + 2), .slice ao xs.length cap] w fun e w' => e = .returned (.bool true) ∧ ∃ n, w' = w.drewN n := by
  go_enter Tryz.func113, Tryz.ntmps113
  go_wp2
  go_loopw [6] (fun t wr => ∃ k : Nat, k ≤ xs.length + 2 ∧ t = .int .i64 k ∧ ∃ n, wr = w.drewN n) (fun t _ => xs.length + 2 - (intOf t).toNat)
  case atStart => exact ⟨0, by omega, rfl, 0, rfl⟩
  case round =>
    obtain ⟨k, hk, rfl, n, rfl⟩ := hrel
    by_cases hlt : k < xs.length + 2
    · have hc := hr.cell' (ints_getD (xs ++ [77, 77]) k (by simp; omega))
      by_cases hk2 : k < xs.length
      · obtain ⟨b, o, rfl, hci, _⟩ := hx.at hk2
        replace hci := hci k hk2
        have e1 : (xs ++ [77, 77]).getD k 0 = xs.getD k 0 := by simp [List.getD, List.getElem?_append_left hk2]
        rw [e1] at hc
        generalize xs.getD k 0 = y at *
        clear e1 hr hx
        have d1 : decide ((k : Int) < (xs.length : Int)) = true := by simp; omega
        have d2 : decide ((xs.length : Int) ≤ (k : Int)) = false := by simp; omega
        have d1' : decide (k < xs.length) = true := by simp; omega
        have d2' : decide (xs.length ≤ k) = false := by simp; omega
        go_wp2
        go_quiet (fail)
        go_wp2
        go_roundw
        case rel => exact ⟨k + 1, by omega, by go_num, _, rfl⟩
        case measure => simp [intOf]; omega
      · have e1 : (xs ++ [77, 77]).getD k 0 = 77 := by
          have : k = xs.length ∨ k = xs.length + 1 := by omega
          rcases this with rfl | rfl <;> simp [List.getD]
        rw [e1] at hc
        clear e1 hr hx
        have d1 : decide ((k : Int) < (xs.length : Int)) = false := by simp; omega
        have d2 : decide ((xs.length : Int) ≤ (k : Int)) = true := by simp; omega
        have d1' : decide (k < xs.length) = false := by simp; omega
        have d2' : decide (xs.length ≤ k) = true := by simp; omega
        go_wp2
        go_quiet (fail)
        go_wp2
        go_roundw
        case rel => exact ⟨k + 1, by omega, by go_num, _, rfl⟩
        case measure => simp [intOf]; omega
    · go_wp2
      go_ret
      exact ⟨rfl, _, rfl⟩

set_option maxHeartbeats 2000000 in
set_option maxRecDepth 100000 in
theorem still_any (g0 g1 g2 : Nat) (h : TH) (t : Tx) (w : World) (hx : TxAt w h t) (h0 : RowAt w g0 3 (ints (t.r ++ [77, 77]))) (h1 : RowAt w g1 3 (ints (t.w ++ [77, 77]))) (h2 : RowAt w g2 114 (insCells (t.c ++ [ins77, ins77]))) :
    Calls Tryz.prog 71 #[.agg #[.slice (some ⟨g0, 0, none⟩) t.r.length (t.r.length + 2), .slice (some ⟨g1, 0, none⟩) t.w.length (t.w.length + 2), .slice (some ⟨g2, 0, none⟩) t.c.length (t.c.length + 2)], .agg h.cells] w fun e w' => e = .returned (.bool true) ∧ Below w.heap.size w w' := by
  obtain ⟨⟨ra, rn, rc⟩, ⟨wa, wn, wc⟩, ⟨ca, cn, cc⟩⟩ := h
  obtain ⟨R, W, C⟩ := t
  obtain ⟨rl, wl, cl, b1, b2, b3, b4, b5, b6, ri, wi, ci⟩ := hx
  simp only at rl wl cl b1 b2 b3 b4 b5 b6 ri wi ci h0 h1 h2
  subst rl wl cl
  have S0 := hide (fun wx (hb : Below w.heap.size w wx) => sameNumbers_any g0 ra rc R wx (ri.below hb) (h0.below' hb) (by omega))
  have S1 := hide (fun wx (hb : Below w.heap.size w wx) => sameNumbers_any g1 wa wc W wx (wi.below hb) (h1.below' hb) (by omega))
  have CI := hide ci
  have H2 := hide h2
  clear ri wi ci h0 h1 h2
  show Calls Tryz.prog 71 #[.agg #[.slice (some ⟨g0, 0, none⟩) R.length (R.length + 2), .slice (some ⟨g1, 0, none⟩) W.length (W.length + 2), .slice (some ⟨g2, 0, none⟩) C.length (C.length + 2)], .agg #[.slice ra R.length rc, .slice wa W.length wc, .slice ca C.length cc]] w _
  go_enter Tryz.func71, Tryz.ntmps71
  go_wp2_with fail
  refine (S0.out _ (below_on (below_alloc1 _ _) (below_alloc1 _ _))).mono ?_
  rintro e w1 ⟨rfl, n1, rfl⟩
  go_wp2_with fail
  refine (S1.out _ (below_drewN (below_on (below_alloc1 _ _) (below_alloc1 _ _)) _)).mono ?_
  rintro e w1 ⟨rfl, n2, rfl⟩
  go_wp2
  go_loopw [8] (fun t wr => ∃ k : Nat, k ≤ C.length + 2 ∧ t = .int .i64 k ∧ wr.cell? ⟨w.heap.size + 1, 2, none⟩ = some (.slice ca C.length cc) ∧ Below w.heap.size w wr) (fun t _ => C.length + 2 - (intOf t).toNat)
  case atStart => exact ⟨0, by omega, rfl, by simp, below_drewN (below_on (below_alloc1 _ _) (below_alloc1 _ _)) _⟩
  case round =>
    obtain ⟨k, hk, rfl, hq, hb⟩ := hrel
    by_cases hlt : k < C.length + 2
    · obtain ⟨c0, c1, c2, c3⟩ := insCells_get (C ++ [ins77, ins77]) k (by simp; omega)
      have hr := H2.out.below' hb
      replace c0 := hr.cell' c0
      replace c1 := hr.cell' c1
      replace c2 := hr.cell' c2
      replace c3 := hr.cell' c3
      clear hr
      by_cases hk2 : k < C.length
      · obtain ⟨b, o, rfl, hci, _⟩ := (CI.out.below hb).at hk2
        obtain ⟨q0, q1, q2, q3⟩ := hci k hk2
        have e1 : (C ++ [ins77, ins77]).getD k Ins.zero = C.getD k Ins.zero := by simp [List.getD, List.getElem?_append_left hk2]
        rw [e1] at c0 c1 c2 c3
        generalize C.getD k Ins.zero = y at *
        obtain ⟨op, a, b', c⟩ := y
        simp only at c0 c1 c2 c3 q0 q1 q2 q3
        clear e1 hci
        have d1 : decide ((k : Int) < (C.length : Int)) = true := by simp; omega
        have d2 : decide ((C.length : Int) ≤ (k : Int)) = false := by simp; omega
        have d1' : decide (k < C.length) = true := by simp; omega
        have d2' : decide (C.length ≤ k) = false := by simp; omega
        clear S0 S1 CI H2
        go_wp2
        go_quiet (fail)
        go_wp2
        go_roundw
        case rel => exact ⟨k + 1, by omega, by go_num, by simpa using hq, below_drewN hb _⟩
        case measure => simp [intOf]; omega
      · have e1 : (C ++ [ins77, ins77]).getD k Ins.zero = ins77 := by
          have : k = C.length ∨ k = C.length + 1 := by omega
          rcases this with rfl | rfl <;> simp [List.getD]
        rw [e1] at c0 c1 c2 c3
        simp only [ins77] at c0 c1 c2 c3
        clear e1
        have d1 : decide ((k : Int) < (C.length : Int)) = false := by simp; omega
        have d2 : decide ((C.length : Int) ≤ (k : Int)) = true := by simp; omega
        have d1' : decide (k < C.length) = false := by simp; omega
        have d2' : decide (C.length ≤ k) = true := by simp; omega
        clear S0 S1 CI H2
        go_wp2
        go_quiet (fail)
        go_wp2
        go_roundw
        case rel => exact ⟨k + 1, by omega, by go_num, by simpa using hq, below_drewN hb _⟩
        case measure => simp [intOf]; omega
    · go_wp2
      go_ret
      exact ⟨rfl, hb⟩

end Go.Proofs.YtlheloogmgmjnaaGreat

namespace Go.Proofs.YtlheloogmgmjnaaGreat
open Go.RowKit

def regOf (reg : List Int) (i : Int) : Int := reg.getD i.toNat 0

/-- What an instruction does with the registers, and with what the keys that are written will have. -/
def oneStep (x : Ins) (R : List Int) (hv : List Slot) (reg : List Int) (out : List Slot) : List Int × List Slot :=
  if x.op = 1 then (reg.set x.a.toNat x.b, out)
  else if x.op = 2 then (reg.set x.a.toNat (wrap64 (regOf reg x.b + regOf reg x.c)), out)
  else if x.op = 3 then (reg.set x.a.toNat (wrap64 (regOf reg x.b - regOf reg x.c)), out)
  else if x.op = 4 then (reg.set x.a.toNat (wrap64 (regOf reg x.b * regOf reg x.c)), out)
  else if x.op = 5 then (reg.set x.a.toNat (if regOf reg x.b < regOf reg x.c then 1 else 0), out)
  else if x.op = 6 then (reg.set x.a.toNat (hv.getD (regOf R x.b).toNat Slot.none).v, out)
  else if x.op = 7 then (reg.set x.a.toNat (if (hv.getD (regOf R x.b).toNat Slot.none).th then 1 else 0), out)
  else if x.op = 8 then (reg, out.set x.a.toNat ⟨regOf reg x.b, true⟩)
  else if x.op = 9 then (reg, out.set x.a.toNat ⟨0, false⟩)
  else (reg, out)

theorem ints_set (xs : List Int) (i : Nat) (y : Int) : (ints xs).set i (.int .i64 y) = ints (xs.set i y) := by
  simp [ints, List.map_set]

theorem chg_end {w : World} {a : Addr} {v : Value} {o1 o2 : Obj} : Chg w (((w.setCell a v).alloc o1).alloc o2) (· = a.block) :=
  (Chg.setCell w a v).trans ((Chg.of_below (below_alloc1 _ _) _).trans (Chg.of_below (below_alloc1 _ _) _))
theorem chg_end2 {w : World} {a : Addr} {b : Addr} {v u : Value} {o1 o2 : Obj} (h : b.block = a.block) : Chg w ((((w.setCell a v).setCell b u).alloc o1).alloc o2) (· = a.block) :=
  (Chg.setCell w a v).trans (((Chg.setCell _ b u).mono (fun _ _ hk => hk.trans h)).trans ((Chg.of_below (below_alloc1 _ _) _).trans (Chg.of_below (below_alloc1 _ _) _)))

set_option maxHeartbeats 1000000 in
set_option maxRecDepth 100000 in
theorem one_1 (a : Nat) (b c : Int) (ra wa ca ha oa : Option Addr) (rn rc wn wc cn cc hn hc on oc : Nat) (gr : Nat) (reg : List Int) (w : World) (hl : reg.length = 6) (hr : RowAt w gr 3 (ints reg)) (ha6 : a < 6) :
    Calls Tryz.prog 156 #[.agg #[.int .i64 1, .int .i64 a, .int .i64 b, .int .i64 c], .agg #[.slice ra rn rc, .slice wa wn wc, .slice ca cn cc], .slice ha hn hc, .slice (some ⟨gr, 0, none⟩) 6 6, .slice oa on oc] w fun e w' =>
      e = .returned (.tuple #[]) ∧ RowAt w' gr 3 (ints (reg.set a b)) ∧ Chg w w' (· = gr) := by
  have hlt := hr.lt
  have hA := hr.cell' (ints_getD reg a (by omega))
  generalize reg.getD a 0 = x at *
  have hf := hr.frozen a
  have HR := hide ((hr.set a (.int .i64 b)))
  rw [ints_set] at HR
  clear hr
  go_enter Tryz.func156, Tryz.ntmps156
  go_wp2
  go_end0
  exact ⟨rfl, (HR.out.alloc _).alloc _, chg_end⟩

set_option maxHeartbeats 1000000 in
set_option maxRecDepth 100000 in
theorem one_2 (a b c : Nat) (ra wa ca ha oa : Option Addr) (rn rc wn wc cn cc hn hc on oc : Nat) (gr : Nat) (reg : List Int) (w : World) (hl : reg.length = 6) (hr : RowAt w gr 3 (ints reg)) (ha6 : a < 6) (hb6 : b < 6) (hc6 : c < 6) :
    Calls Tryz.prog 156 #[.agg #[.int .i64 2, .int .i64 a, .int .i64 b, .int .i64 c], .agg #[.slice ra rn rc, .slice wa wn wc, .slice ca cn cc], .slice ha hn hc, .slice (some ⟨gr, 0, none⟩) 6 6, .slice oa on oc] w fun e w' =>
      e = .returned (.tuple #[]) ∧ RowAt w' gr 3 (ints (reg.set a (wrap64 (reg.getD b 0 + reg.getD c 0)))) ∧ Chg w w' (· = gr) := by
  have hB := hr.cell' (ints_getD reg b (by omega))
  have hC := hr.cell' (ints_getD reg c (by omega))
  generalize reg.getD b 0 = y at *
  generalize reg.getD c 0 = z at *
  have hlt := hr.lt
  have hA := hr.cell' (ints_getD reg a (by omega))
  generalize reg.getD a 0 = x at *
  have hf := hr.frozen a
  have HR := hide ((hr.set a (.int .i64 (wrap64 (y + z)))))
  rw [ints_set] at HR
  clear hr
  go_enter Tryz.func156, Tryz.ntmps156
  go_wp2
  go_region
  go_wp2
  go_end0
  exact ⟨rfl, ((HR.out.alloc _).alloc _).drew, chg_end.drew⟩

set_option maxHeartbeats 1000000 in
set_option maxRecDepth 100000 in
theorem one_3 (a b c : Nat) (ra wa ca ha oa : Option Addr) (rn rc wn wc cn cc hn hc on oc : Nat) (gr : Nat) (reg : List Int) (w : World) (hl : reg.length = 6) (hr : RowAt w gr 3 (ints reg)) (ha6 : a < 6) (hb6 : b < 6) (hc6 : c < 6) :
    Calls Tryz.prog 156 #[.agg #[.int .i64 3, .int .i64 a, .int .i64 b, .int .i64 c], .agg #[.slice ra rn rc, .slice wa wn wc, .slice ca cn cc], .slice ha hn hc, .slice (some ⟨gr, 0, none⟩) 6 6, .slice oa on oc] w fun e w' =>
      e = .returned (.tuple #[]) ∧ RowAt w' gr 3 (ints (reg.set a (wrap64 (reg.getD b 0 - reg.getD c 0)))) ∧ Chg w w' (· = gr) := by
  have hB := hr.cell' (ints_getD reg b (by omega))
  have hC := hr.cell' (ints_getD reg c (by omega))
  generalize reg.getD b 0 = y at *
  generalize reg.getD c 0 = z at *
  have hlt := hr.lt
  have hA := hr.cell' (ints_getD reg a (by omega))
  generalize reg.getD a 0 = x at *
  have hf := hr.frozen a
  have HR := hide ((hr.set a (.int .i64 (wrap64 (y - z)))))
  rw [ints_set] at HR
  clear hr
  go_enter Tryz.func156, Tryz.ntmps156
  go_wp2
  go_region
  go_wp2
  go_end0
  exact ⟨rfl, ((HR.out.alloc _).alloc _).drew, chg_end.drew⟩

set_option maxHeartbeats 1000000 in
set_option maxRecDepth 100000 in
theorem one_4 (a b c : Nat) (ra wa ca ha oa : Option Addr) (rn rc wn wc cn cc hn hc on oc : Nat) (gr : Nat) (reg : List Int) (w : World) (hl : reg.length = 6) (hr : RowAt w gr 3 (ints reg)) (ha6 : a < 6) (hb6 : b < 6) (hc6 : c < 6) :
    Calls Tryz.prog 156 #[.agg #[.int .i64 4, .int .i64 a, .int .i64 b, .int .i64 c], .agg #[.slice ra rn rc, .slice wa wn wc, .slice ca cn cc], .slice ha hn hc, .slice (some ⟨gr, 0, none⟩) 6 6, .slice oa on oc] w fun e w' =>
      e = .returned (.tuple #[]) ∧ RowAt w' gr 3 (ints (reg.set a (wrap64 (reg.getD b 0 * reg.getD c 0)))) ∧ Chg w w' (· = gr) := by
  have hB := hr.cell' (ints_getD reg b (by omega))
  have hC := hr.cell' (ints_getD reg c (by omega))
  generalize reg.getD b 0 = y at *
  generalize reg.getD c 0 = z at *
  have hlt := hr.lt
  have hA := hr.cell' (ints_getD reg a (by omega))
  generalize reg.getD a 0 = x at *
  have hf := hr.frozen a
  have HR := hide ((hr.set a (.int .i64 (wrap64 (y * z)))))
  rw [ints_set] at HR
  clear hr
  go_enter Tryz.func156, Tryz.ntmps156
  go_wp2
  go_region
  go_wp2
  go_end0
  exact ⟨rfl, ((HR.out.alloc _).alloc _).drew, chg_end.drew⟩

set_option maxHeartbeats 1000000 in
set_option maxRecDepth 100000 in
theorem one_5 (a b c : Nat) (ra wa ca ha oa : Option Addr) (rn rc wn wc cn cc hn hc on oc : Nat) (gr : Nat) (reg : List Int) (w : World) (hl : reg.length = 6) (hr : RowAt w gr 3 (ints reg)) (ha6 : a < 6) (hb6 : b < 6) (hc6 : c < 6) :
    Calls Tryz.prog 156 #[.agg #[.int .i64 5, .int .i64 a, .int .i64 b, .int .i64 c], .agg #[.slice ra rn rc, .slice wa wn wc, .slice ca cn cc], .slice ha hn hc, .slice (some ⟨gr, 0, none⟩) 6 6, .slice oa on oc] w fun e w' =>
      e = .returned (.tuple #[]) ∧ RowAt w' gr 3 (ints (reg.set a (if reg.getD b 0 < reg.getD c 0 then 1 else 0))) ∧ Chg w w' (· = gr) := by
  have hB := hr.cell' (ints_getD reg b (by omega))
  have hC := hr.cell' (ints_getD reg c (by omega))
  generalize reg.getD b 0 = y at *
  generalize reg.getD c 0 = z at *
  have hlt := hr.lt
  have hA := hr.cell' (ints_getD reg a (by omega))
  generalize reg.getD a 0 = x at *
  have hf := hr.frozen a
  by_cases hyz : y < z
  · rw [if_pos hyz]
    have HR := hide ((hr.set a (.int .i64 1)))
    rw [ints_set] at HR
    clear hr
    go_enter Tryz.func156, Tryz.ntmps156
    go_wp2
    go_region
    go_wp2
    go_end0
    exact ⟨rfl, ((HR.out.alloc _).alloc _).drew, chg_end.drew⟩
  · rw [if_neg hyz]
    have HR := hide ((hr.set a (.int .i64 0)))
    rw [ints_set] at HR
    clear hr
    go_enter Tryz.func156, Tryz.ntmps156
    go_wp2
    go_region
    go_wp2
    go_end0
    exact ⟨rfl, ((HR.out.alloc _).alloc _).drew, chg_end.drew⟩

end Go.Proofs.YtlheloogmgmjnaaGreat

namespace Go.Proofs.YtlheloogmgmjnaaGreat
open Go.RowKit

set_option maxHeartbeats 1000000 in
set_option maxRecDepth 100000 in
theorem one_6 (a b : Nat) (c : Int) (ra wa ca ha oa : Option Addr) (rn rc wn wc cn cc hn hc on oc : Nat) (gr : Nat) (reg : List Int) (w : World) (hl : reg.length = 6) (hr : RowAt w gr 3 (ints reg)) (ha6 : a < 6) (R : List Int) (hv : List Slot) (k : Nat) (hR : IntsAt w ra R) (hRl : R.length = rn) (hbR : b < R.length) (hk : R.getD b 0 = k) (hV : SlotsAt w ha hv) (hVl : hv.length = hn) (hkV : k < hv.length) :
    Calls Tryz.prog 156 #[.agg #[.int .i64 6, .int .i64 a, .int .i64 b, .int .i64 c], .agg #[.slice ra rn rc, .slice wa wn wc, .slice ca cn cc], .slice ha hn hc, .slice (some ⟨gr, 0, none⟩) 6 6, .slice oa on oc] w fun e w' =>
      e = .returned (.tuple #[]) ∧ RowAt w' gr 3 (ints (reg.set a (hv.getD k Slot.none).v)) ∧ Chg w w' (· = gr) := by
  obtain ⟨b1, o1, rfl, hRc, hb1⟩ := hR.at hbR
  replace hRc := hRc b hbR
  rw [hk] at hRc
  obtain ⟨b2, o2, rfl, hVc, hb2⟩ := hV.at hkV
  obtain ⟨hV0, hV1⟩ := hVc k hkV
  subst hRl hVl
  clear hR hV hVc hk
  generalize hv.getD k Slot.none = sl at *
  obtain ⟨sv, sth⟩ := sl
  simp only at hV0 hV1
  have hlt := hr.lt
  have hA := hr.cell' (ints_getD reg a (by omega))
  generalize reg.getD a 0 = x at *
  have hf := hr.frozen a
  have HR := hide ((hr.set a (.int .i64 sv)))
  rw [ints_set] at HR
  clear hr
  go_enter Tryz.func156, Tryz.ntmps156
  go_wp2
  go_region
  go_wp2
  go_end0
  exact ⟨rfl, ((HR.out.alloc _).alloc _).drew, chg_end.drew⟩

set_option maxHeartbeats 1000000 in
set_option maxRecDepth 100000 in
theorem one_7 (a b : Nat) (c : Int) (ra wa ca ha oa : Option Addr) (rn rc wn wc cn cc hn hc on oc : Nat) (gr : Nat) (reg : List Int) (w : World) (hl : reg.length = 6) (hr : RowAt w gr 3 (ints reg)) (ha6 : a < 6) (R : List Int) (hv : List Slot) (k : Nat) (hR : IntsAt w ra R) (hRl : R.length = rn) (hbR : b < R.length) (hk : R.getD b 0 = k) (hV : SlotsAt w ha hv) (hVl : hv.length = hn) (hkV : k < hv.length) :
    Calls Tryz.prog 156 #[.agg #[.int .i64 7, .int .i64 a, .int .i64 b, .int .i64 c], .agg #[.slice ra rn rc, .slice wa wn wc, .slice ca cn cc], .slice ha hn hc, .slice (some ⟨gr, 0, none⟩) 6 6, .slice oa on oc] w fun e w' =>
      e = .returned (.tuple #[]) ∧ RowAt w' gr 3 (ints (reg.set a (if (hv.getD k Slot.none).th then 1 else 0))) ∧ Chg w w' (· = gr) := by
  obtain ⟨b1, o1, rfl, hRc, hb1⟩ := hR.at hbR
  replace hRc := hRc b hbR
  rw [hk] at hRc
  obtain ⟨b2, o2, rfl, hVc, hb2⟩ := hV.at hkV
  obtain ⟨hV0, hV1⟩ := hVc k hkV
  subst hRl hVl
  clear hR hV hVc hk
  generalize hv.getD k Slot.none = sl at *
  obtain ⟨sv, sth⟩ := sl
  simp only at hV0 hV1
  have hlt := hr.lt
  have hA := hr.cell' (ints_getD reg a (by omega))
  generalize reg.getD a 0 = x at *
  have hf := hr.frozen a
  cases sth
  · have HR := hide ((hr.set a (.int .i64 0)))
    rw [ints_set] at HR
    clear hr
    go_enter Tryz.func156, Tryz.ntmps156
    go_wp2
    go_end0
    exact ⟨rfl, (HR.out.alloc _).alloc _, chg_end⟩
  · have HR := hide ((hr.set a (.int .i64 1)))
    rw [ints_set] at HR
    clear hr
    go_enter Tryz.func156, Tryz.ntmps156
    go_wp2
    go_end0
    exact ⟨rfl, (HR.out.alloc _).alloc _, chg_end⟩

set_option maxHeartbeats 1000000 in
set_option maxRecDepth 100000 in
theorem one_8 (a b : Nat) (c : Int) (ra wa ca ha : Option Addr) (rn rc wn wc cn cc hn hc oc : Nat) (gr go : Nat) (reg : List Int) (out : List Slot) (w : World) (hl : reg.length = 6) (hr : RowAt w gr 3 (ints reg)) (ho : RowAt w go 172 (slotCells out)) (ha6 : a < out.length) (hb6 : b < 6) :
    Calls Tryz.prog 156 #[.agg #[.int .i64 8, .int .i64 a, .int .i64 b, .int .i64 c], .agg #[.slice ra rn rc, .slice wa wn wc, .slice ca cn cc], .slice ha hn hc, .slice (some ⟨gr, 0, none⟩) 6 6, .slice (some ⟨go, 0, none⟩) out.length oc] w fun e w' =>
      e = .returned (.tuple #[]) ∧ RowAt w' go 172 (slotCells (out.set a ⟨reg.getD b 0, true⟩)) ∧ Chg w w' (· = go) := by
  have hlt := ho.lt
  obtain ⟨hA0, hA1⟩ := slotCells_get out a ha6
  replace hA0 := ho.cell' hA0
  replace hA1 := ho.cell' hA1
  have hf := ho.frozen
  have hB := hr.cell' (ints_getD reg b (by omega))
  have hlr := hr.lt
  have hf0 := hf (a * 2)
  have hf1 := hf (a * 2 + 1)
  clear hf
  generalize reg.getD b 0 = y at *
  have HR := hide ((ho.set (a * 2) (.int .i64 y)).set (a * 2 + 1) (.bool true))
  rw [slotCells_set out ⟨y, true⟩ a ha6] at HR
  clear hr ho
  go_enter Tryz.func156, Tryz.ntmps156
  go_wp2
  go_region
  go_wp2
  go_end0
  exact ⟨rfl, ((HR.out.alloc _).alloc _).drew, (chg_end2 (a := ⟨go, a * 2, none⟩) (b := ⟨go, a * 2 + 1, none⟩) rfl).drew⟩

set_option maxHeartbeats 1000000 in
set_option maxRecDepth 100000 in
theorem one_9 (a : Nat) (b c : Int) (ra wa ca ha : Option Addr) (rn rc wn wc cn cc hn hc oc : Nat) (gr go : Nat) (out : List Slot) (w : World) (ho : RowAt w go 172 (slotCells out)) (ha6 : a < out.length)  :
    Calls Tryz.prog 156 #[.agg #[.int .i64 9, .int .i64 a, .int .i64 b, .int .i64 c], .agg #[.slice ra rn rc, .slice wa wn wc, .slice ca cn cc], .slice ha hn hc, .slice (some ⟨gr, 0, none⟩) 6 6, .slice (some ⟨go, 0, none⟩) out.length oc] w fun e w' =>
      e = .returned (.tuple #[]) ∧ RowAt w' go 172 (slotCells (out.set a ⟨0, false⟩)) ∧ Chg w w' (· = go) := by
  have hlt := ho.lt
  obtain ⟨hA0, hA1⟩ := slotCells_get out a ha6
  replace hA0 := ho.cell' hA0
  replace hA1 := ho.cell' hA1
  have hf := ho.frozen
  have HR := hide ((ho.set (a * 2) (.int .i64 0)).set (a * 2 + 1) (.bool false))
  rw [slotCells_set out ⟨0, false⟩ a ha6] at HR
  clear ho
  go_enter Tryz.func156, Tryz.ntmps156
  go_wp2
  go_end0
  exact ⟨rfl, (HR.out.alloc _).alloc _, chg_end2 (a := ⟨go, a * 2, none⟩) (b := ⟨go, a * 2 + 1, none⟩) rfl⟩

set_option maxHeartbeats 1000000 in
set_option maxRecDepth 100000 in
theorem one_no (op a b c : Int) (ra wa ca ha ga oa : Option Addr) (rn rc wn wc cn cc hn hc gn gc on oc : Nat) (w : World) (h : 9 < op) :
    Calls Tryz.prog 156 #[.agg #[.int .i64 op, .int .i64 a, .int .i64 b, .int .i64 c], .agg #[.slice ra rn rc, .slice wa wn wc, .slice ca cn cc], .slice ha hn hc, .slice ga gn gc, .slice oa on oc] w fun e w' =>
      e = .returned (.tuple #[]) ∧ Below w.heap.size w w' := by
  have e1 : (op == 1) = false := by rw [beq_eq_false_iff_ne]; omega
  have e2 : (op == 2) = false := by rw [beq_eq_false_iff_ne]; omega
  have e3 : (op == 3) = false := by rw [beq_eq_false_iff_ne]; omega
  have e4 : (op == 4) = false := by rw [beq_eq_false_iff_ne]; omega
  have e5 : (op == 5) = false := by rw [beq_eq_false_iff_ne]; omega
  have e6 : (op == 6) = false := by rw [beq_eq_false_iff_ne]; omega
  have e7 : (op == 7) = false := by rw [beq_eq_false_iff_ne]; omega
  have e8 : (op == 8) = false := by rw [beq_eq_false_iff_ne]; omega
  have e9 : (op == 9) = false := by rw [beq_eq_false_iff_ne]; omega
  go_enter Tryz.func156, Tryz.ntmps156
  go_wp2
  go_end0
  exact ⟨rfl, below_on (below_alloc1 _ _) (below_alloc1 _ _)⟩

end Go.Proofs.YtlheloogmgmjnaaGreat
