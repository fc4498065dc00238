import Derived.Test.YtlheloogmgmjnaaProg
import Derived.Test.YtlheloogmgmjnaaT01
namespace Go.Proofs.Ytlheloogmgmjnaa
open Go.RowKit

def bel (n t : Int) : Bool := decide (0 ≤ n ∧ n < t)

set_option maxHeartbeats 400000 in
theorem sbelow_any (n t : Int) (w : World) :
    Calls Try.prog 80 #[.int .i64 n, .int .i64 t] w fun e w' => e = .returned (.bool (bel n t)) ∧ w' = w := by
  by_cases h : 0 ≤ n
  · have hb : bel n t = decide (n < t) := by simp [bel, h]
    rw [hb]
    go_enter Try.func80, Try.ntmps80
    go_wp2
    go_ret
    exact ⟨rfl, rfl⟩
  · have hb : bel n t = false := by simp [bel, h]
    rw [hb]
    go_enter Try.func80, Try.ntmps80
    go_wp2
    go_ret
    exact ⟨rfl, rfl⟩

set_option maxHeartbeats 400000 in
theorem isRegister_any (n : Int) (w : World) :
    Calls Try.prog 83 #[.int .i64 n] w fun e w' => e = .returned (.bool (bel n 6)) ∧ w' = w := by
  go_enter Try.func83, Try.ntmps83
  go_wp2_with (go_at_call 80; refine (sbelow_any _ _ _).mono ?_; rintro e w' ⟨rfl, rfl⟩)
  go_ret
  exact ⟨rfl, rfl⟩

set_option maxHeartbeats 400000 in
theorem IsKey_any (n : Int) (w : World) :
    Calls Try.prog 62 #[.int .i64 n] w fun e w' => e = .returned (.bool (bel n 24)) ∧ w' = w := by
  go_enter Try.func62, Try.ntmps62
  go_wp2_with (go_at_call 80; refine (sbelow_any _ _ _).mono ?_; rintro e w' ⟨rfl, rfl⟩)
  go_ret
  exact ⟨rfl, rfl⟩

set_option maxHeartbeats 400000 in
theorem hasNoKey1_any (n : Int) (w : World) :
    Calls Try.prog 61 #[.int .i64 n] w fun e w' => e = .returned (.bool (!bel n 24)) ∧ w' = w := by
  go_enter Try.func61, Try.ntmps61
  go_wp2_with (go_at_call 62; refine (IsKey_any _ _).mono ?_; rintro e w' ⟨rfl, rfl⟩)
  go_ret
  exact ⟨rfl, rfl⟩

theorem any_take_succ {α : Type} (xs : List α) (p : α → Bool) (d : α) {k : Nat} (hk : k < xs.length) : (xs.take (k + 1)).any p = ((xs.take k).any p || p (xs.getD k d)) := by
  rw [List.take_succ_eq_append_getElem hk, List.any_append]; simp [List.getD, hk]

theorem any_of_take {α : Type} (xs : List α) (p : α → Bool) (d : α) {k : Nat} (hk : k < xs.length) (h : p (xs.getD k d) = true) : xs.any p = true := by
  rw [List.any_eq_true]; exact ⟨xs[k], List.getElem_mem hk, by simpa [List.getD, hk] using h⟩

set_option maxHeartbeats 400000 in
theorem IndexFuncI_any (ao : Option Addr) (cap : Nat) (xs : List Int) (w : World) (hx : IntsAt w ao xs) (hl : xs.length * 8 ≤ 140737488351232) :
    Calls Try.prog 79 #[.slice ao xs.length cap, .func (.func 61) #[] #[]] w fun e w' => (∃ v : Int, e = .returned (.int .i64 v) ∧ decide (0 ≤ v) = xs.any fun n => !bel n 24) ∧ w' = w := by
  go_enter Try.func79, Try.ntmps79
  go_wp2
  go_loop [8] (fun t => ∃ k : Nat, k ≤ xs.length ∧ t = .int .i64 k ∧ (xs.take k).any (fun n => !bel n 24) = false) (fun t => xs.length - (intOf t).toNat)
  case atStart => exact ⟨0, Nat.zero_le _, rfl, by simp⟩
  case round =>
    obtain ⟨k, hk, rfl, hn⟩ := hrel
    by_cases hlt : k < xs.length
    · obtain ⟨b, o, rfl, hc, _⟩ := hx.at hlt
      have hck := hc k hlt
      have hs := any_take_succ xs (fun n => !bel n 24) 0 hlt
      have ha := any_of_take xs (fun n => !bel n 24) 0 hlt
      generalize xs.getD k 0 = y at *
      rw [hn] at hs
      have HS := hide hs; have HA := hide ha
      clear hs ha hn hc hx
      by_cases hp : bel y 24 = true
      · go_wp2_with (go_at_call 61; refine (hasNoKey1_any _ _).mono ?_; rintro e w' ⟨rfl, rfl⟩)
        go_round
        case rel => exact ⟨k + 1, by omega, by go_num, by rw [HS.out, hp]; rfl⟩
        case measure => simp [intOf]; omega
      · go_wp2_with (go_at_call 61; refine (hasNoKey1_any _ _).mono ?_; rintro e w' ⟨rfl, rfl⟩)
        go_ret
        exact ⟨⟨_, rfl, by rw [HA.out (by simpa using hp)]; simp⟩, rfl⟩
    · go_wp2
      go_ret
      refine ⟨⟨_, rfl, ?_⟩, rfl⟩
      rw [List.take_of_length_le (by omega)] at hn
      rw [hn]; rfl

set_option maxHeartbeats 400000 in
theorem ContainsFuncI_any (ao : Option Addr) (cap : Nat) (xs : List Int) (w : World) (hx : IntsAt w ao xs) (hl : xs.length * 8 ≤ 140737488351232) :
    Calls Try.prog 60 #[.slice ao xs.length cap, .func (.func 61) #[] #[]] w fun e w' => e = .returned (.bool (xs.any fun n => !bel n 24)) ∧ w' = w := by
  go_enter Try.func60, Try.ntmps60
  go_wp2_with fail
  refine (IndexFuncI_any ao cap xs _ hx hl).mono ?_
  rintro e w' ⟨⟨v, rfl, hv⟩, rfl⟩
  have HV := hide hv
  clear hv
  go_wp2
  go_ret
  exact ⟨by rw [← HV.out]; rfl, rfl⟩

set_option maxHeartbeats 400000 in
theorem hasNoKey_any (ao : Option Addr) (cap : Nat) (xs : List Int) (w : World) (hx : IntsAt w ao xs) (hl : xs.length * 8 ≤ 140737488351232) :
    Calls Try.prog 38 #[.slice ao xs.length cap] w fun e w' => e = .returned (.bool (xs.any fun n => !bel n 24)) ∧ w' = w := by
  go_enter Try.func38, Try.ntmps38
  go_wp2_with fail
  refine (ContainsFuncI_any ao cap xs _ hx hl).mono ?_
  rintro e w' ⟨rfl, rfl⟩
  generalize hr : (xs.any fun n => !bel n 24) = r
  have HR := hide hr
  clear hr
  go_wp2
  go_ret
  exact ⟨by rw [HR.out]; rfl, rfl⟩

set_option maxHeartbeats 400000 in
theorem IndexI_any (ao : Option Addr) (cap : Nat) (xs : List Int) (y : Int) (w : World) (hx : IntsAt w ao xs) (hl : xs.length * 8 ≤ 140737488351232) :
    Calls Try.prog 81 #[.slice ao xs.length cap, .int .i64 y] w fun e w' => (∃ v : Int, e = .returned (.int .i64 v) ∧ decide (0 ≤ v) = xs.any fun z => z == y) ∧ w' = w := by
  go_enter Try.func81, Try.ntmps81
  go_wp2
  go_loop [8] (fun t => ∃ k : Nat, k ≤ xs.length ∧ t = .int .i64 k ∧ (xs.take k).any (fun z => z == y) = false) (fun t => xs.length - (intOf t).toNat)
  case atStart => exact ⟨0, Nat.zero_le _, rfl, by simp⟩
  case round =>
    obtain ⟨k, hk, rfl, hn⟩ := hrel
    by_cases hlt : k < xs.length
    · obtain ⟨b, o, rfl, hc, _⟩ := hx.at hlt
      have hck := hc k hlt
      have hs := any_take_succ xs (fun z => z == y) 0 hlt
      have ha := any_of_take xs (fun z => z == y) 0 hlt
      generalize xs.getD k 0 = z at *
      rw [hn] at hs
      have HS := hide hs; have HA := hide ha
      clear hs ha hn hc hx
      by_cases hp : z = y
      · have hp' : (y == z) = true := by simp [hp]
        have HP := hide hp
        clear hp
        go_wp2
        go_ret
        exact ⟨⟨_, rfl, by rw [HA.out (by simpa using HP.out)]; simp⟩, rfl⟩
      · have hp' : (y == z) = false := by simp; omega
        go_wp2
        go_round
        case rel => exact ⟨k + 1, by omega, by go_num, by rw [HS.out]; simp [hp]⟩
        case measure => simp [intOf]; omega
    · go_wp2
      go_ret
      refine ⟨⟨_, rfl, ?_⟩, rfl⟩
      rw [List.take_of_length_le (by omega)] at hn
      rw [hn]; rfl

set_option maxHeartbeats 400000 in
theorem ContainsI_any (ao : Option Addr) (cap : Nat) (xs : List Int) (y : Int) (w : World) (hx : IntsAt w ao xs) (hl : xs.length * 8 ≤ 140737488351232) :
    Calls Try.prog 63 #[.slice ao xs.length cap, .int .i64 y] w fun e w' => e = .returned (.bool (xs.any fun z => z == y)) ∧ w' = w := by
  go_enter Try.func63, Try.ntmps63
  go_wp2_with fail
  refine (IndexI_any ao cap xs y _ hx hl).mono ?_
  rintro e w' ⟨⟨v, rfl, hv⟩, rfl⟩
  have HV := hide hv
  clear hv
  go_wp2
  go_ret
  exact ⟨by rw [← HV.out]; rfl, rfl⟩

/-- Does a number stand among those ahead of it, up to the k-th? -/
def twiceTo (xs : List Int) (k : Nat) : Bool := (List.range k).any fun i => (xs.take i).any fun z => z == xs.getD i 0
theorem twiceTo_succ (xs : List Int) (k : Nat) : twiceTo xs (k + 1) = (twiceTo xs k || (xs.take k).any fun z => z == xs.getD k 0) := by
  simp [twiceTo, List.range_succ]
theorem twiceTo_of (xs : List Int) {k : Nat} (hk : k < xs.length) (h : ((xs.take k).any fun z => z == xs.getD k 0) = true) : twiceTo xs xs.length = true := by
  unfold twiceTo; rw [List.any_eq_true]; exact ⟨k, List.mem_range.2 hk, h⟩

theorem IntsAt.take {w : World} {ao : Option Addr} {xs : List Int} (h : IntsAt w ao xs) (k : Nat) : IntsAt w ao (xs.take k) := by
  rcases h with h | ⟨b, o, rfl, hc⟩
  · exact Or.inl (by simp [h])
  · refine Or.inr ⟨b, o, rfl, fun i hi => ?_⟩
    simp only [List.length_take] at hi
    rw [hc i (by omega)]; simp [List.getD, show i < k by omega]

set_option maxHeartbeats 400000 in
theorem hasTwice_any (ao : Option Addr) (cap : Nat) (xs : List Int) (w : World) (hx : IntsAt w ao xs) (hl : xs.length * 8 ≤ 140737488351232) (hcap : xs.length ≤ cap) :
    Calls Try.prog 39 #[.slice ao xs.length cap] w fun e w' => e = .returned (.bool (twiceTo xs xs.length)) ∧ w' = w := by
  go_enter Try.func39, Try.ntmps39
  go_wp2
  go_loop [7] (fun t => ∃ k : Nat, k ≤ xs.length ∧ t = .int .i64 k ∧ twiceTo xs k = false) (fun t => xs.length - (intOf t).toNat)
  case atStart => exact ⟨0, Nat.zero_le _, rfl, by simp [twiceTo]⟩
  case round =>
    obtain ⟨k, hk, rfl, hn⟩ := hrel
    by_cases hlt : k < xs.length
    · have ht := hx.take k
      have htl : (xs.take k).length = k := by simp; omega
      obtain ⟨b, o, rfl, hc, _⟩ := hx.at hlt
      have hck := hc k hlt
      have hs := twiceTo_succ xs k
      have ha := twiceTo_of xs hlt
      generalize xs.getD k 0 = z at *
      rw [hn] at hs
      have HS := hide hs; have HA := hide ha
      clear hs ha hn hc hx
      have cc := ContainsI_any (some ⟨b, o, none⟩) cap (xs.take k) z w ht (by omega)
      rw [htl] at cc
      have CC := hide cc
      clear cc htl
      generalize hq : (List.any (List.take k xs) fun z_1 => z_1 == z) = q at *
      clear hq
      cases q
      · go_wp2_with (go_at_call 63; refine CC.out.mono ?_; rintro e w' ⟨rfl, rfl⟩)
        go_round
        case rel => exact ⟨k + 1, by omega, by go_num, by rw [HS.out]; rfl⟩
        case measure => simp [intOf]; omega
      · go_wp2_with (go_at_call 63; refine CC.out.mono ?_; rintro e w' ⟨rfl, rfl⟩)
        go_ret
        exact ⟨ret_bool (HA.out (by simp)).symm, rfl⟩
    · go_wp2
      go_ret
      have : k = xs.length := by omega
      subst this
      exact ⟨ret_bool hn.symm, rfl⟩

def longB (t : Tx) : Bool := decide (30 < t.c.length ∨ 6 < t.r.length ∨ 6 < t.w.length)

set_option maxHeartbeats 400000 in
theorem isLong_any (h : TH) (t : Tx) (w : World) (hx : TxAt w h t) :
    Calls Try.prog 37 #[.agg h.cells] w fun e w' => e = .returned (.bool (longB t)) ∧ Below w.heap.size w w' := by
  obtain ⟨⟨ra, rn, rc⟩, ⟨wa, wn, wc⟩, ⟨ca, cn, cc⟩⟩ := h
  obtain ⟨R, W, C⟩ := t
  obtain ⟨rl, wl, cl, _, _, _, _, _, _, ri, wi, ci⟩ := hx
  simp only at rl wl cl
  subst rl wl cl
  show Calls Try.prog 37 #[.agg #[.slice ra R.length rc, .slice wa W.length wc, .slice ca C.length cc]] w _
  by_cases h1 : (30 : Int) < (C.length : Int)
  · have hb : longB ⟨R, W, C⟩ = true := by simp [longB]; omega
    have HB := hide hb
    clear hb
    go_enter Try.func37, Try.ntmps37
    go_wp2
    go_ret
    exact ⟨ret_bool HB.out.symm, (Below.refl _ _).alloc (Nat.le_refl _) _⟩
  · by_cases h2 : (6 : Int) < (R.length : Int)
    · have hb : longB ⟨R, W, C⟩ = true := by simp [longB]; omega
      have HB := hide hb
      clear hb
      go_enter Try.func37, Try.ntmps37
      go_wp2
      go_ret
      exact ⟨ret_bool HB.out.symm, (Below.refl _ _).alloc (Nat.le_refl _) _⟩
    · have hb : longB ⟨R, W, C⟩ = decide ((6 : Int) < (W.length : Int)) := by simp only [longB, decide_eq_decide]; omega
      have HB := hide hb
      clear hb
      go_enter Try.func37, Try.ntmps37
      go_wp2
      go_ret
      exact ⟨ret_bool HB.out.symm, (Below.refl _ _).alloc (Nat.le_refl _) _⟩

end Go.Proofs.Ytlheloogmgmjnaa

namespace Go.Proofs.Ytlheloogmgmjnaa
open Go.RowKit

/-- Is an instruction sound, for so many keys that are read, and written? -/
def soundB (x : Ins) (nr nw : Int) : Bool :=
  if x.op = 1 then bel x.a 6 && x.c == 0
  else if x.op = 2 ∨ x.op = 3 ∨ x.op = 4 ∨ x.op = 5 then bel x.a 6 && bel x.b 6 && bel x.c 6
  else if x.op = 6 ∨ x.op = 7 then bel x.a 6 && bel x.b nr && x.c == 0
  else if x.op = 8 then bel x.a nw && bel x.b 6 && x.c == 0
  else if x.op = 9 then bel x.a nw && x.b == 0 && x.c == 0
  else if x.op = 10 then bel x.a 6 && decide (1 ≤ x.b) && decide (x.b ≤ 30) && x.c == 0
  else if x.op = 11 then x.a == 0 && x.b == 0 && x.c == 0
  else false

set_option maxHeartbeats 1000000 in
theorem isSound_1 (a b c nr nw : Int) (w : World) :
    Calls Try.prog 66 #[.agg #[.int .i64 1, .int .i64 a, .int .i64 b, .int .i64 c], .int .i64 nr, .int .i64 nw] w fun e w' => e = .returned (.bool (soundB ⟨1, a, b, c⟩ nr nw)) ∧ Below w.heap.size w w' := by
  have hb : soundB ⟨1, a, b, c⟩ nr nw = (bel a 6 && (c == 0)) := by simp [soundB]
  rcases Bool.eq_false_or_eq_true (bel a 6) with g0 | g0
  rotate_left
  · have HB := hide (by rw [hb]; simp [g0] : soundB ⟨1, a, b, c⟩ nr nw = false)
    clear hb
    go_enter Try.func66, Try.ntmps66
    go_wp2_with (first | (go_at_call 83; refine (isRegister_any _ _).mono ?_; rintro e w' ⟨rfl, rfl⟩) | (go_at_call 80; refine (sbelow_any _ _ _).mono ?_; rintro e w' ⟨rfl, rfl⟩))
    go_ret
    exact ⟨ret_bool HB.out.symm, (Below.refl _ _).alloc (Nat.le_refl _) _⟩
  · have HB := hide (by rw [hb]; simp [g0] : soundB ⟨1, a, b, c⟩ nr nw = (c == 0))
    clear hb
    go_enter Try.func66, Try.ntmps66
    go_wp2_with (first | (go_at_call 83; refine (isRegister_any _ _).mono ?_; rintro e w' ⟨rfl, rfl⟩) | (go_at_call 80; refine (sbelow_any _ _ _).mono ?_; rintro e w' ⟨rfl, rfl⟩))
    go_ret
    exact ⟨ret_bool HB.out.symm, (Below.refl _ _).alloc (Nat.le_refl _) _⟩

set_option maxHeartbeats 1000000 in
theorem isSound_2 (a b c nr nw : Int) (w : World) :
    Calls Try.prog 66 #[.agg #[.int .i64 2, .int .i64 a, .int .i64 b, .int .i64 c], .int .i64 nr, .int .i64 nw] w fun e w' => e = .returned (.bool (soundB ⟨2, a, b, c⟩ nr nw)) ∧ Below w.heap.size w w' := by
  have hb : soundB ⟨2, a, b, c⟩ nr nw = (bel a 6 && bel b 6 && bel c 6) := by simp [soundB]
  rcases Bool.eq_false_or_eq_true (bel a 6) with g0 | g0
  rotate_left
  · have HB := hide (by rw [hb]; simp [g0] : soundB ⟨2, a, b, c⟩ nr nw = false)
    clear hb
    go_enter Try.func66, Try.ntmps66
    go_wp2_with (first | (go_at_call 83; refine (isRegister_any _ _).mono ?_; rintro e w' ⟨rfl, rfl⟩) | (go_at_call 80; refine (sbelow_any _ _ _).mono ?_; rintro e w' ⟨rfl, rfl⟩))
    go_ret
    exact ⟨ret_bool HB.out.symm, (Below.refl _ _).alloc (Nat.le_refl _) _⟩
  rcases Bool.eq_false_or_eq_true (bel b 6) with g1 | g1
  rotate_left
  · have HB := hide (by rw [hb]; simp [g0, g1] : soundB ⟨2, a, b, c⟩ nr nw = false)
    clear hb
    go_enter Try.func66, Try.ntmps66
    go_wp2_with (first | (go_at_call 83; refine (isRegister_any _ _).mono ?_; rintro e w' ⟨rfl, rfl⟩) | (go_at_call 80; refine (sbelow_any _ _ _).mono ?_; rintro e w' ⟨rfl, rfl⟩))
    go_ret
    exact ⟨ret_bool HB.out.symm, (Below.refl _ _).alloc (Nat.le_refl _) _⟩
  · have HB := hide (by rw [hb]; simp [g0, g1] : soundB ⟨2, a, b, c⟩ nr nw = bel c 6)
    clear hb
    go_enter Try.func66, Try.ntmps66
    go_wp2_with (first | (go_at_call 83; refine (isRegister_any _ _).mono ?_; rintro e w' ⟨rfl, rfl⟩) | (go_at_call 80; refine (sbelow_any _ _ _).mono ?_; rintro e w' ⟨rfl, rfl⟩))
    go_ret
    exact ⟨ret_bool HB.out.symm, (Below.refl _ _).alloc (Nat.le_refl _) _⟩

set_option maxHeartbeats 1000000 in
theorem isSound_3 (a b c nr nw : Int) (w : World) :
    Calls Try.prog 66 #[.agg #[.int .i64 3, .int .i64 a, .int .i64 b, .int .i64 c], .int .i64 nr, .int .i64 nw] w fun e w' => e = .returned (.bool (soundB ⟨3, a, b, c⟩ nr nw)) ∧ Below w.heap.size w w' := by
  have hb : soundB ⟨3, a, b, c⟩ nr nw = (bel a 6 && bel b 6 && bel c 6) := by simp [soundB]
  rcases Bool.eq_false_or_eq_true (bel a 6) with g0 | g0
  rotate_left
  · have HB := hide (by rw [hb]; simp [g0] : soundB ⟨3, a, b, c⟩ nr nw = false)
    clear hb
    go_enter Try.func66, Try.ntmps66
    go_wp2_with (first | (go_at_call 83; refine (isRegister_any _ _).mono ?_; rintro e w' ⟨rfl, rfl⟩) | (go_at_call 80; refine (sbelow_any _ _ _).mono ?_; rintro e w' ⟨rfl, rfl⟩))
    go_ret
    exact ⟨ret_bool HB.out.symm, (Below.refl _ _).alloc (Nat.le_refl _) _⟩
  rcases Bool.eq_false_or_eq_true (bel b 6) with g1 | g1
  rotate_left
  · have HB := hide (by rw [hb]; simp [g0, g1] : soundB ⟨3, a, b, c⟩ nr nw = false)
    clear hb
    go_enter Try.func66, Try.ntmps66
    go_wp2_with (first | (go_at_call 83; refine (isRegister_any _ _).mono ?_; rintro e w' ⟨rfl, rfl⟩) | (go_at_call 80; refine (sbelow_any _ _ _).mono ?_; rintro e w' ⟨rfl, rfl⟩))
    go_ret
    exact ⟨ret_bool HB.out.symm, (Below.refl _ _).alloc (Nat.le_refl _) _⟩
  · have HB := hide (by rw [hb]; simp [g0, g1] : soundB ⟨3, a, b, c⟩ nr nw = bel c 6)
    clear hb
    go_enter Try.func66, Try.ntmps66
    go_wp2_with (first | (go_at_call 83; refine (isRegister_any _ _).mono ?_; rintro e w' ⟨rfl, rfl⟩) | (go_at_call 80; refine (sbelow_any _ _ _).mono ?_; rintro e w' ⟨rfl, rfl⟩))
    go_ret
    exact ⟨ret_bool HB.out.symm, (Below.refl _ _).alloc (Nat.le_refl _) _⟩

set_option maxHeartbeats 1000000 in
theorem isSound_4 (a b c nr nw : Int) (w : World) :
    Calls Try.prog 66 #[.agg #[.int .i64 4, .int .i64 a, .int .i64 b, .int .i64 c], .int .i64 nr, .int .i64 nw] w fun e w' => e = .returned (.bool (soundB ⟨4, a, b, c⟩ nr nw)) ∧ Below w.heap.size w w' := by
  have hb : soundB ⟨4, a, b, c⟩ nr nw = (bel a 6 && bel b 6 && bel c 6) := by simp [soundB]
  rcases Bool.eq_false_or_eq_true (bel a 6) with g0 | g0
  rotate_left
  · have HB := hide (by rw [hb]; simp [g0] : soundB ⟨4, a, b, c⟩ nr nw = false)
    clear hb
    go_enter Try.func66, Try.ntmps66
    go_wp2_with (first | (go_at_call 83; refine (isRegister_any _ _).mono ?_; rintro e w' ⟨rfl, rfl⟩) | (go_at_call 80; refine (sbelow_any _ _ _).mono ?_; rintro e w' ⟨rfl, rfl⟩))
    go_ret
    exact ⟨ret_bool HB.out.symm, (Below.refl _ _).alloc (Nat.le_refl _) _⟩
  rcases Bool.eq_false_or_eq_true (bel b 6) with g1 | g1
  rotate_left
  · have HB := hide (by rw [hb]; simp [g0, g1] : soundB ⟨4, a, b, c⟩ nr nw = false)
    clear hb
    go_enter Try.func66, Try.ntmps66
    go_wp2_with (first | (go_at_call 83; refine (isRegister_any _ _).mono ?_; rintro e w' ⟨rfl, rfl⟩) | (go_at_call 80; refine (sbelow_any _ _ _).mono ?_; rintro e w' ⟨rfl, rfl⟩))
    go_ret
    exact ⟨ret_bool HB.out.symm, (Below.refl _ _).alloc (Nat.le_refl _) _⟩
  · have HB := hide (by rw [hb]; simp [g0, g1] : soundB ⟨4, a, b, c⟩ nr nw = bel c 6)
    clear hb
    go_enter Try.func66, Try.ntmps66
    go_wp2_with (first | (go_at_call 83; refine (isRegister_any _ _).mono ?_; rintro e w' ⟨rfl, rfl⟩) | (go_at_call 80; refine (sbelow_any _ _ _).mono ?_; rintro e w' ⟨rfl, rfl⟩))
    go_ret
    exact ⟨ret_bool HB.out.symm, (Below.refl _ _).alloc (Nat.le_refl _) _⟩

set_option maxHeartbeats 1000000 in
theorem isSound_5 (a b c nr nw : Int) (w : World) :
    Calls Try.prog 66 #[.agg #[.int .i64 5, .int .i64 a, .int .i64 b, .int .i64 c], .int .i64 nr, .int .i64 nw] w fun e w' => e = .returned (.bool (soundB ⟨5, a, b, c⟩ nr nw)) ∧ Below w.heap.size w w' := by
  have hb : soundB ⟨5, a, b, c⟩ nr nw = (bel a 6 && bel b 6 && bel c 6) := by simp [soundB]
  rcases Bool.eq_false_or_eq_true (bel a 6) with g0 | g0
  rotate_left
  · have HB := hide (by rw [hb]; simp [g0] : soundB ⟨5, a, b, c⟩ nr nw = false)
    clear hb
    go_enter Try.func66, Try.ntmps66
    go_wp2_with (first | (go_at_call 83; refine (isRegister_any _ _).mono ?_; rintro e w' ⟨rfl, rfl⟩) | (go_at_call 80; refine (sbelow_any _ _ _).mono ?_; rintro e w' ⟨rfl, rfl⟩))
    go_ret
    exact ⟨ret_bool HB.out.symm, (Below.refl _ _).alloc (Nat.le_refl _) _⟩
  rcases Bool.eq_false_or_eq_true (bel b 6) with g1 | g1
  rotate_left
  · have HB := hide (by rw [hb]; simp [g0, g1] : soundB ⟨5, a, b, c⟩ nr nw = false)
    clear hb
    go_enter Try.func66, Try.ntmps66
    go_wp2_with (first | (go_at_call 83; refine (isRegister_any _ _).mono ?_; rintro e w' ⟨rfl, rfl⟩) | (go_at_call 80; refine (sbelow_any _ _ _).mono ?_; rintro e w' ⟨rfl, rfl⟩))
    go_ret
    exact ⟨ret_bool HB.out.symm, (Below.refl _ _).alloc (Nat.le_refl _) _⟩
  · have HB := hide (by rw [hb]; simp [g0, g1] : soundB ⟨5, a, b, c⟩ nr nw = bel c 6)
    clear hb
    go_enter Try.func66, Try.ntmps66
    go_wp2_with (first | (go_at_call 83; refine (isRegister_any _ _).mono ?_; rintro e w' ⟨rfl, rfl⟩) | (go_at_call 80; refine (sbelow_any _ _ _).mono ?_; rintro e w' ⟨rfl, rfl⟩))
    go_ret
    exact ⟨ret_bool HB.out.symm, (Below.refl _ _).alloc (Nat.le_refl _) _⟩

set_option maxHeartbeats 1000000 in
theorem isSound_6 (a b c nr nw : Int) (w : World) :
    Calls Try.prog 66 #[.agg #[.int .i64 6, .int .i64 a, .int .i64 b, .int .i64 c], .int .i64 nr, .int .i64 nw] w fun e w' => e = .returned (.bool (soundB ⟨6, a, b, c⟩ nr nw)) ∧ Below w.heap.size w w' := by
  have hb : soundB ⟨6, a, b, c⟩ nr nw = (bel a 6 && bel b nr && (c == 0)) := by simp [soundB]
  rcases Bool.eq_false_or_eq_true (bel a 6) with g0 | g0
  rotate_left
  · have HB := hide (by rw [hb]; simp [g0] : soundB ⟨6, a, b, c⟩ nr nw = false)
    clear hb
    go_enter Try.func66, Try.ntmps66
    go_wp2_with (first | (go_at_call 83; refine (isRegister_any _ _).mono ?_; rintro e w' ⟨rfl, rfl⟩) | (go_at_call 80; refine (sbelow_any _ _ _).mono ?_; rintro e w' ⟨rfl, rfl⟩))
    go_ret
    exact ⟨ret_bool HB.out.symm, (Below.refl _ _).alloc (Nat.le_refl _) _⟩
  rcases Bool.eq_false_or_eq_true (bel b nr) with g1 | g1
  rotate_left
  · have HB := hide (by rw [hb]; simp [g0, g1] : soundB ⟨6, a, b, c⟩ nr nw = false)
    clear hb
    go_enter Try.func66, Try.ntmps66
    go_wp2_with (first | (go_at_call 83; refine (isRegister_any _ _).mono ?_; rintro e w' ⟨rfl, rfl⟩) | (go_at_call 80; refine (sbelow_any _ _ _).mono ?_; rintro e w' ⟨rfl, rfl⟩))
    go_ret
    exact ⟨ret_bool HB.out.symm, (Below.refl _ _).alloc (Nat.le_refl _) _⟩
  · have HB := hide (by rw [hb]; simp [g0, g1] : soundB ⟨6, a, b, c⟩ nr nw = (c == 0))
    clear hb
    go_enter Try.func66, Try.ntmps66
    go_wp2_with (first | (go_at_call 83; refine (isRegister_any _ _).mono ?_; rintro e w' ⟨rfl, rfl⟩) | (go_at_call 80; refine (sbelow_any _ _ _).mono ?_; rintro e w' ⟨rfl, rfl⟩))
    go_ret
    exact ⟨ret_bool HB.out.symm, (Below.refl _ _).alloc (Nat.le_refl _) _⟩

set_option maxHeartbeats 1000000 in
theorem isSound_7 (a b c nr nw : Int) (w : World) :
    Calls Try.prog 66 #[.agg #[.int .i64 7, .int .i64 a, .int .i64 b, .int .i64 c], .int .i64 nr, .int .i64 nw] w fun e w' => e = .returned (.bool (soundB ⟨7, a, b, c⟩ nr nw)) ∧ Below w.heap.size w w' := by
  have hb : soundB ⟨7, a, b, c⟩ nr nw = (bel a 6 && bel b nr && (c == 0)) := by simp [soundB]
  rcases Bool.eq_false_or_eq_true (bel a 6) with g0 | g0
  rotate_left
  · have HB := hide (by rw [hb]; simp [g0] : soundB ⟨7, a, b, c⟩ nr nw = false)
    clear hb
    go_enter Try.func66, Try.ntmps66
    go_wp2_with (first | (go_at_call 83; refine (isRegister_any _ _).mono ?_; rintro e w' ⟨rfl, rfl⟩) | (go_at_call 80; refine (sbelow_any _ _ _).mono ?_; rintro e w' ⟨rfl, rfl⟩))
    go_ret
    exact ⟨ret_bool HB.out.symm, (Below.refl _ _).alloc (Nat.le_refl _) _⟩
  rcases Bool.eq_false_or_eq_true (bel b nr) with g1 | g1
  rotate_left
  · have HB := hide (by rw [hb]; simp [g0, g1] : soundB ⟨7, a, b, c⟩ nr nw = false)
    clear hb
    go_enter Try.func66, Try.ntmps66
    go_wp2_with (first | (go_at_call 83; refine (isRegister_any _ _).mono ?_; rintro e w' ⟨rfl, rfl⟩) | (go_at_call 80; refine (sbelow_any _ _ _).mono ?_; rintro e w' ⟨rfl, rfl⟩))
    go_ret
    exact ⟨ret_bool HB.out.symm, (Below.refl _ _).alloc (Nat.le_refl _) _⟩
  · have HB := hide (by rw [hb]; simp [g0, g1] : soundB ⟨7, a, b, c⟩ nr nw = (c == 0))
    clear hb
    go_enter Try.func66, Try.ntmps66
    go_wp2_with (first | (go_at_call 83; refine (isRegister_any _ _).mono ?_; rintro e w' ⟨rfl, rfl⟩) | (go_at_call 80; refine (sbelow_any _ _ _).mono ?_; rintro e w' ⟨rfl, rfl⟩))
    go_ret
    exact ⟨ret_bool HB.out.symm, (Below.refl _ _).alloc (Nat.le_refl _) _⟩

set_option maxHeartbeats 1000000 in
theorem isSound_8 (a b c nr nw : Int) (w : World) :
    Calls Try.prog 66 #[.agg #[.int .i64 8, .int .i64 a, .int .i64 b, .int .i64 c], .int .i64 nr, .int .i64 nw] w fun e w' => e = .returned (.bool (soundB ⟨8, a, b, c⟩ nr nw)) ∧ Below w.heap.size w w' := by
  have hb : soundB ⟨8, a, b, c⟩ nr nw = (bel a nw && bel b 6 && (c == 0)) := by simp [soundB]
  rcases Bool.eq_false_or_eq_true (bel a nw) with g0 | g0
  rotate_left
  · have HB := hide (by rw [hb]; simp [g0] : soundB ⟨8, a, b, c⟩ nr nw = false)
    clear hb
    go_enter Try.func66, Try.ntmps66
    go_wp2_with (first | (go_at_call 83; refine (isRegister_any _ _).mono ?_; rintro e w' ⟨rfl, rfl⟩) | (go_at_call 80; refine (sbelow_any _ _ _).mono ?_; rintro e w' ⟨rfl, rfl⟩))
    go_ret
    exact ⟨ret_bool HB.out.symm, (Below.refl _ _).alloc (Nat.le_refl _) _⟩
  rcases Bool.eq_false_or_eq_true (bel b 6) with g1 | g1
  rotate_left
  · have HB := hide (by rw [hb]; simp [g0, g1] : soundB ⟨8, a, b, c⟩ nr nw = false)
    clear hb
    go_enter Try.func66, Try.ntmps66
    go_wp2_with (first | (go_at_call 83; refine (isRegister_any _ _).mono ?_; rintro e w' ⟨rfl, rfl⟩) | (go_at_call 80; refine (sbelow_any _ _ _).mono ?_; rintro e w' ⟨rfl, rfl⟩))
    go_ret
    exact ⟨ret_bool HB.out.symm, (Below.refl _ _).alloc (Nat.le_refl _) _⟩
  · have HB := hide (by rw [hb]; simp [g0, g1] : soundB ⟨8, a, b, c⟩ nr nw = (c == 0))
    clear hb
    go_enter Try.func66, Try.ntmps66
    go_wp2_with (first | (go_at_call 83; refine (isRegister_any _ _).mono ?_; rintro e w' ⟨rfl, rfl⟩) | (go_at_call 80; refine (sbelow_any _ _ _).mono ?_; rintro e w' ⟨rfl, rfl⟩))
    go_ret
    exact ⟨ret_bool HB.out.symm, (Below.refl _ _).alloc (Nat.le_refl _) _⟩

set_option maxHeartbeats 1000000 in
theorem isSound_9 (a b c nr nw : Int) (w : World) :
    Calls Try.prog 66 #[.agg #[.int .i64 9, .int .i64 a, .int .i64 b, .int .i64 c], .int .i64 nr, .int .i64 nw] w fun e w' => e = .returned (.bool (soundB ⟨9, a, b, c⟩ nr nw)) ∧ Below w.heap.size w w' := by
  have hb : soundB ⟨9, a, b, c⟩ nr nw = (bel a nw && (b == 0) && (c == 0)) := by simp [soundB]
  rcases Bool.eq_false_or_eq_true (bel a nw) with g0 | g0
  rotate_left
  · have HB := hide (by rw [hb]; simp [g0] : soundB ⟨9, a, b, c⟩ nr nw = false)
    clear hb
    go_enter Try.func66, Try.ntmps66
    go_wp2_with (first | (go_at_call 83; refine (isRegister_any _ _).mono ?_; rintro e w' ⟨rfl, rfl⟩) | (go_at_call 80; refine (sbelow_any _ _ _).mono ?_; rintro e w' ⟨rfl, rfl⟩))
    go_ret
    exact ⟨ret_bool HB.out.symm, (Below.refl _ _).alloc (Nat.le_refl _) _⟩
  rcases Bool.eq_false_or_eq_true ((b == 0)) with g1 | g1
  rotate_left
  · have HB := hide (by rw [hb]; simp [g0, g1] : soundB ⟨9, a, b, c⟩ nr nw = false)
    clear hb
    go_enter Try.func66, Try.ntmps66
    go_wp2_with (first | (go_at_call 83; refine (isRegister_any _ _).mono ?_; rintro e w' ⟨rfl, rfl⟩) | (go_at_call 80; refine (sbelow_any _ _ _).mono ?_; rintro e w' ⟨rfl, rfl⟩))
    go_ret
    exact ⟨ret_bool HB.out.symm, (Below.refl _ _).alloc (Nat.le_refl _) _⟩
  · have HB := hide (by rw [hb]; simp [g0, g1] : soundB ⟨9, a, b, c⟩ nr nw = (c == 0))
    clear hb
    go_enter Try.func66, Try.ntmps66
    go_wp2_with (first | (go_at_call 83; refine (isRegister_any _ _).mono ?_; rintro e w' ⟨rfl, rfl⟩) | (go_at_call 80; refine (sbelow_any _ _ _).mono ?_; rintro e w' ⟨rfl, rfl⟩))
    go_ret
    exact ⟨ret_bool HB.out.symm, (Below.refl _ _).alloc (Nat.le_refl _) _⟩

set_option maxHeartbeats 1000000 in
theorem isSound_10 (a b c nr nw : Int) (w : World) :
    Calls Try.prog 66 #[.agg #[.int .i64 10, .int .i64 a, .int .i64 b, .int .i64 c], .int .i64 nr, .int .i64 nw] w fun e w' => e = .returned (.bool (soundB ⟨10, a, b, c⟩ nr nw)) ∧ Below w.heap.size w w' := by
  have hb : soundB ⟨10, a, b, c⟩ nr nw = (bel a 6 && decide (1 ≤ b) && decide (b ≤ 30) && (c == 0)) := by simp [soundB]
  rcases Bool.eq_false_or_eq_true (bel a 6) with g0 | g0
  rotate_left
  · have HB := hide (by rw [hb]; simp [g0] : soundB ⟨10, a, b, c⟩ nr nw = false)
    clear hb
    go_enter Try.func66, Try.ntmps66
    go_wp2_with (first | (go_at_call 83; refine (isRegister_any _ _).mono ?_; rintro e w' ⟨rfl, rfl⟩) | (go_at_call 80; refine (sbelow_any _ _ _).mono ?_; rintro e w' ⟨rfl, rfl⟩))
    go_ret
    exact ⟨ret_bool HB.out.symm, (Below.refl _ _).alloc (Nat.le_refl _) _⟩
  rcases Bool.eq_false_or_eq_true (decide (1 ≤ b)) with g1 | g1
  rotate_left
  · have HB := hide (by rw [hb]; simp [g0, g1] : soundB ⟨10, a, b, c⟩ nr nw = false)
    clear hb
    go_enter Try.func66, Try.ntmps66
    go_wp2_with (first | (go_at_call 83; refine (isRegister_any _ _).mono ?_; rintro e w' ⟨rfl, rfl⟩) | (go_at_call 80; refine (sbelow_any _ _ _).mono ?_; rintro e w' ⟨rfl, rfl⟩))
    go_ret
    exact ⟨ret_bool HB.out.symm, (Below.refl _ _).alloc (Nat.le_refl _) _⟩
  rcases Bool.eq_false_or_eq_true (decide (b ≤ 30)) with g2 | g2
  rotate_left
  · have HB := hide (by rw [hb]; simp [g0, g1, g2] : soundB ⟨10, a, b, c⟩ nr nw = false)
    clear hb
    go_enter Try.func66, Try.ntmps66
    go_wp2_with (first | (go_at_call 83; refine (isRegister_any _ _).mono ?_; rintro e w' ⟨rfl, rfl⟩) | (go_at_call 80; refine (sbelow_any _ _ _).mono ?_; rintro e w' ⟨rfl, rfl⟩))
    go_ret
    exact ⟨ret_bool HB.out.symm, (Below.refl _ _).alloc (Nat.le_refl _) _⟩
  · have HB := hide (by rw [hb]; simp [g0, g1, g2] : soundB ⟨10, a, b, c⟩ nr nw = (c == 0))
    clear hb
    go_enter Try.func66, Try.ntmps66
    go_wp2_with (first | (go_at_call 83; refine (isRegister_any _ _).mono ?_; rintro e w' ⟨rfl, rfl⟩) | (go_at_call 80; refine (sbelow_any _ _ _).mono ?_; rintro e w' ⟨rfl, rfl⟩))
    go_ret
    exact ⟨ret_bool HB.out.symm, (Below.refl _ _).alloc (Nat.le_refl _) _⟩

set_option maxHeartbeats 1000000 in
theorem isSound_11 (a b c nr nw : Int) (w : World) :
    Calls Try.prog 66 #[.agg #[.int .i64 11, .int .i64 a, .int .i64 b, .int .i64 c], .int .i64 nr, .int .i64 nw] w fun e w' => e = .returned (.bool (soundB ⟨11, a, b, c⟩ nr nw)) ∧ Below w.heap.size w w' := by
  have hb : soundB ⟨11, a, b, c⟩ nr nw = ((a == 0) && (b == 0) && (c == 0)) := by simp [soundB]
  rcases Bool.eq_false_or_eq_true ((a == 0)) with g0 | g0
  rotate_left
  · have HB := hide (by rw [hb]; simp [g0] : soundB ⟨11, a, b, c⟩ nr nw = false)
    clear hb
    go_enter Try.func66, Try.ntmps66
    go_wp2_with (first | (go_at_call 83; refine (isRegister_any _ _).mono ?_; rintro e w' ⟨rfl, rfl⟩) | (go_at_call 80; refine (sbelow_any _ _ _).mono ?_; rintro e w' ⟨rfl, rfl⟩))
    go_ret
    exact ⟨ret_bool HB.out.symm, (Below.refl _ _).alloc (Nat.le_refl _) _⟩
  rcases Bool.eq_false_or_eq_true ((b == 0)) with g1 | g1
  rotate_left
  · have HB := hide (by rw [hb]; simp [g0, g1] : soundB ⟨11, a, b, c⟩ nr nw = false)
    clear hb
    go_enter Try.func66, Try.ntmps66
    go_wp2_with (first | (go_at_call 83; refine (isRegister_any _ _).mono ?_; rintro e w' ⟨rfl, rfl⟩) | (go_at_call 80; refine (sbelow_any _ _ _).mono ?_; rintro e w' ⟨rfl, rfl⟩))
    go_ret
    exact ⟨ret_bool HB.out.symm, (Below.refl _ _).alloc (Nat.le_refl _) _⟩
  · have HB := hide (by rw [hb]; simp [g0, g1] : soundB ⟨11, a, b, c⟩ nr nw = (c == 0))
    clear hb
    go_enter Try.func66, Try.ntmps66
    go_wp2_with (first | (go_at_call 83; refine (isRegister_any _ _).mono ?_; rintro e w' ⟨rfl, rfl⟩) | (go_at_call 80; refine (sbelow_any _ _ _).mono ?_; rintro e w' ⟨rfl, rfl⟩))
    go_ret
    exact ⟨ret_bool HB.out.symm, (Below.refl _ _).alloc (Nat.le_refl _) _⟩

set_option maxHeartbeats 1000000 in
theorem isSound_no (op a b c nr nw : Int) (w : World) (h : op < 1 ∨ 11 < op) :
    Calls Try.prog 66 #[.agg #[.int .i64 op, .int .i64 a, .int .i64 b, .int .i64 c], .int .i64 nr, .int .i64 nw] w fun e w' => e = .returned (.bool (soundB ⟨op, a, b, c⟩ nr nw)) ∧ Below w.heap.size w w' := by
  have HB : Hid (soundB ⟨op, a, b, c⟩ nr nw = false) := by
    show soundB ⟨op, a, b, c⟩ nr nw = false
    simp only [soundB]
    rw [if_neg (by omega), if_neg (by omega), if_neg (by omega), if_neg (by omega), if_neg (by omega), if_neg (by omega), if_neg (by omega)]
  have e1 : (op == 1) = false := by rw [beq_eq_false_iff_ne]; omega
  have e2 : (op == 2) = false := by rw [beq_eq_false_iff_ne]; omega
  have e3 : (op == 3) = false := by rw [beq_eq_false_iff_ne]; omega
  have e4 : (op == 4) = false := by rw [beq_eq_false_iff_ne]; omega
  have e5 : (op == 5) = false := by rw [beq_eq_false_iff_ne]; omega
  have e6 : (op == 6) = false := by rw [beq_eq_false_iff_ne]; omega
  have e7 : (op == 7) = false := by rw [beq_eq_false_iff_ne]; omega
  have e8 : (op == 8) = false := by rw [beq_eq_false_iff_ne]; omega
  have e9 : (op == 9) = false := by rw [beq_eq_false_iff_ne]; omega
  have e10 : (op == 10) = false := by rw [beq_eq_false_iff_ne]; omega
  have e11 : (op == 11) = false := by rw [beq_eq_false_iff_ne]; omega
  go_enter Try.func66, Try.ntmps66
  go_wp2_with (first | (go_at_call 83; refine (isRegister_any _ _).mono ?_; rintro e w' ⟨rfl, rfl⟩) | (go_at_call 80; refine (sbelow_any _ _ _).mono ?_; rintro e w' ⟨rfl, rfl⟩))
  go_ret
  exact ⟨ret_bool HB.out.symm, (Below.refl _ _).alloc (Nat.le_refl _) _⟩

theorem isSound_any (x : Ins) (nr nw : Int) (w : World) :
    Calls Try.prog 66 #[x.val, .int .i64 nr, .int .i64 nw] w fun e w' => e = .returned (.bool (soundB x nr nw)) ∧ Below w.heap.size w w' := by
  obtain ⟨op, a, b, c⟩ := x
  by_cases h : op < 1 ∨ 11 < op
  · exact isSound_no op a b c nr nw w h
  have : op = 1 ∨ op = 2 ∨ op = 3 ∨ op = 4 ∨ op = 5 ∨ op = 6 ∨ op = 7 ∨ op = 8 ∨ op = 9 ∨ op = 10 ∨ op = 11 := by omega
  rcases this with rfl | rfl | rfl | rfl | rfl | rfl | rfl | rfl | rfl | rfl | rfl
  · exact isSound_1 a b c nr nw w
  · exact isSound_2 a b c nr nw w
  · exact isSound_3 a b c nr nw w
  · exact isSound_4 a b c nr nw w
  · exact isSound_5 a b c nr nw w
  · exact isSound_6 a b c nr nw w
  · exact isSound_7 a b c nr nw w
  · exact isSound_8 a b c nr nw w
  · exact isSound_9 a b c nr nw w
  · exact isSound_10 a b c nr nw w
  · exact isSound_11 a b c nr nw w

end Go.Proofs.Ytlheloogmgmjnaa

namespace Go.Proofs.Ytlheloogmgmjnaa
open Go.RowKit

set_option maxHeartbeats 400000 in
theorem hasUnsound1_any (x : Ins) (b o : Nat) (ra wa : Option Addr) (rn rc wn wc : Nat) (w : World) (h0 : w.cell? ⟨b, o, none⟩ = some (.slice ra rn rc)) (h1 : w.cell? ⟨b, o + 1, none⟩ = some (.slice wa wn wc)) :
    Calls Try.prog 65 #[x.val, .pointer (some ⟨b, o, none⟩)] w fun e w' => e = .returned (.bool (!soundB x rn wn)) ∧ Below w.heap.size w w' := by
  obtain ⟨op, a, b', c⟩ := x
  have hb := lt_of_cell h0
  show Calls Try.prog 65 #[.agg #[.int .i64 op, .int .i64 a, .int .i64 b', .int .i64 c], .pointer (some ⟨b, o, none⟩)] w _
  go_enter Try.func65, Try.ntmps65
  go_wp2_with fail
  refine (isSound_any ⟨op, a, b', c⟩ _ _ _).mono ?_
  rintro e w' ⟨rfl, hw⟩
  generalize hr : soundB ⟨op, a, b', c⟩ rn wn = r
  have HR := hide hr
  clear hr
  go_wp2
  go_ret
  exact ⟨ret_bool (by rw [HR.out]), below_alloc hw⟩

set_option maxHeartbeats 1000000 in
theorem IndexFuncX_any (ao : Option Addr) (cap : Nat) (xs : List Ins) (b1 o1 : Nat) (ra wa : Option Addr) (rn rc wn wc : Nat) (w : World) (hx : InsAt w ao xs) (hl : xs.length * 32 ≤ 140737488351232)
    (h0 : w.cell? ⟨b1, o1, none⟩ = some (.slice ra rn rc)) (h1 : w.cell? ⟨b1, o1 + 1, none⟩ = some (.slice wa wn wc)) :
    Calls Try.prog 82 #[.slice ao xs.length cap, .func (.func 65) #[] #[.pointer (some ⟨b1, o1, none⟩)]] w fun e w' => (∃ v : Int, e = .returned (.int .i64 v) ∧ decide (0 ≤ v) = xs.any fun x => !soundB x rn wn) ∧ Below w.heap.size w w' := by
  go_enter Try.func82, Try.ntmps82
  go_wp2
  go_loopw [8] (fun t wr => ∃ k : Nat, k ≤ xs.length ∧ t = .int .i64 k ∧ (xs.take k).any (fun x => !soundB x rn wn) = false ∧ Below w.heap.size w wr) (fun t _ => xs.length - (intOf t).toNat)
  case atStart => exact ⟨0, Nat.zero_le _, rfl, by simp, Below.refl _ _⟩
  case round =>
    obtain ⟨k, hk, rfl, hn, hb⟩ := hrel
    by_cases hlt : k < xs.length
    · obtain ⟨b, o, rfl, hc, _⟩ := (hx.below hb).at hlt
      obtain ⟨k0, k1, k2, k3⟩ := hc k hlt
      have hs := any_take_succ xs (fun x => !soundB x rn wn) Ins.zero hlt
      have ha := any_of_take xs (fun x => !soundB x rn wn) Ins.zero hlt
      generalize xs.getD k Ins.zero = y at *
      rw [hn] at hs
      have HS := hide hs; have HA := hide ha
      have q0 := cell_below hb (Nat.le_refl _) h0
      have q1 := cell_below hb (Nat.le_refl _) h1
      have QQ := hide (hasUnsound1_any y b1 o1 ra wa rn rc wn wc wr q0 q1)
      clear hs ha hn hc hx q0 q1 h0 h1
      obtain ⟨op, a, b', c⟩ := y
      simp only at k0 k1 k2 k3
      generalize hr : soundB ⟨op, a, b', c⟩ rn wn = r at *
      clear hr
      cases r
      · go_wp2_with (go_at_call 65; refine QQ.out.mono ?_; rintro e w' ⟨rfl, hw⟩)
        go_ret
        exact ⟨⟨_, rfl, by rw [HA.out (by simp)]; simp⟩, below_on hb hw⟩
      · go_wp2_with (go_at_call 65; refine QQ.out.mono ?_; rintro e w' ⟨rfl, hw⟩)
        go_roundw
        case rel => exact ⟨k + 1, by omega, by go_num, by rw [HS.out]; rfl, below_on hb hw⟩
        case measure => simp [intOf]; omega
    · go_wp2
      go_ret
      refine ⟨⟨_, rfl, ?_⟩, hb⟩
      rw [List.take_of_length_le (by omega)] at hn
      rw [hn]; rfl

set_option maxHeartbeats 400000 in
theorem ContainsFuncX_any (ao : Option Addr) (cap : Nat) (xs : List Ins) (b1 o1 : Nat) (ra wa : Option Addr) (rn rc wn wc : Nat) (w : World) (hx : InsAt w ao xs) (hl : xs.length * 32 ≤ 140737488351232)
    (h0 : w.cell? ⟨b1, o1, none⟩ = some (.slice ra rn rc)) (h1 : w.cell? ⟨b1, o1 + 1, none⟩ = some (.slice wa wn wc)) :
    Calls Try.prog 64 #[.slice ao xs.length cap, .func (.func 65) #[] #[.pointer (some ⟨b1, o1, none⟩)]] w fun e w' => e = .returned (.bool (xs.any fun x => !soundB x rn wn)) ∧ Below w.heap.size w w' := by
  go_enter Try.func64, Try.ntmps64
  go_wp2_with fail
  refine (IndexFuncX_any ao cap xs b1 o1 ra wa rn rc wn wc _ hx hl h0 h1).mono ?_
  rintro e w' ⟨⟨v, rfl, hv⟩, hw⟩
  have HV := hide hv
  clear hv
  go_wp2
  go_ret
  exact ⟨by rw [← HV.out]; rfl, hw⟩

def unsoundB (t : Tx) : Bool := t.c.any fun x => !soundB x t.r.length t.w.length

set_option maxHeartbeats 400000 in
theorem hasUnsound_any (h : TH) (t : Tx) (w : World) (hx : TxAt w h t) :
    Calls Try.prog 40 #[.agg h.cells] w fun e w' => e = .returned (.bool (unsoundB t)) ∧ Below w.heap.size w w' := by
  obtain ⟨⟨ra, rn, rc⟩, ⟨wa, wn, wc⟩, ⟨ca, cn, cc⟩⟩ := h
  obtain ⟨R, W, C⟩ := t
  obtain ⟨rl, wl, cl, b1, b2, b3, b4, b5, b6, ri, wi, ci⟩ := hx
  simp only at rl wl cl b1 b2 b3 b4 b5 b6 ri wi ci
  subst rl wl cl
  show Calls Try.prog 40 #[.agg #[.slice ra R.length rc, .slice wa W.length wc, .slice ca C.length cc]] w _
  go_enter Try.func40, Try.ntmps40
  go_wp2_with fail
  refine (ContainsFuncX_any ca cc C w.heap.size 0 ra wa R.length rc W.length wc _ (ci.below (below_alloc1 _ _)) (by omega) (by simp) (by simp)).mono ?_
  rintro e w' ⟨rfl, hw⟩
  generalize hr : (C.any fun x => !soundB x R.length W.length) = r
  have HR := hide hr
  clear hr
  go_wp2
  go_ret
  exact ⟨ret_bool HR.out.symm, below_alloc hw⟩

/-- P3, as the two sides have it. -/
def checkN (t : Tx) : Int :=
  if longB t then 2
  else if (t.r.any fun n => !bel n 24) || (t.w.any fun n => !bel n 24) then 3
  else if twiceTo t.r t.r.length || twiceTo t.w t.w.length then 4
  else if unsoundB t then 5
  else 0

set_option maxHeartbeats 1000000 in
theorem Fault_any (h : TH) (t : Tx) (w : World) (hx : TxAt w h t) :
    Calls Try.prog 18 #[.agg h.cells] w fun e w' => e = .returned (.int .i64 (checkN t)) ∧ Below w.heap.size w w' := by
  have L := hide (fun wx (hb : Below w.heap.size w wx) => isLong_any h t wx (hx.below hb))
  have U := hide (fun wx (hb : Below w.heap.size w wx) => hasUnsound_any h t wx (hx.below hb))
  have NR := hide (fun wx (hb : Below w.heap.size w wx) => hasNoKey_any h.r.a h.r.c t.r wx (hx.ri.below hb) (by have := hx.rl; have := hx.rc; have := hx.rb; omega))
  have NW := hide (fun wx (hb : Below w.heap.size w wx) => hasNoKey_any h.w.a h.w.c t.w wx (hx.wi.below hb) (by have := hx.wl; have := hx.wc; have := hx.wb; omega))
  have TR := hide (fun wx (hb : Below w.heap.size w wx) => hasTwice_any h.r.a h.r.c t.r wx (hx.ri.below hb) (by have := hx.rl; have := hx.rc; have := hx.rb; omega) (by have := hx.rl; have := hx.rc; omega))
  have TW := hide (fun wx (hb : Below w.heap.size w wx) => hasTwice_any h.w.a h.w.c t.w wx (hx.wi.below hb) (by have := hx.wl; have := hx.wc; have := hx.wb; omega) (by have := hx.wl; have := hx.wc; omega))
  have hC : checkN t = checkN t := rfl
  conv at hC => rhs; unfold checkN
  generalize longB t = l at *
  generalize unsoundB t = u at *
  generalize (t.r.any fun n => !bel n 24) = nr at *
  generalize (t.w.any fun n => !bel n 24) = nw at *
  generalize twiceTo t.r t.r.length = tr at *
  generalize twiceTo t.w t.w.length = tw at *
  rw [hC]
  clear hC
  have rl := hx.rl; have wl := hx.wl
  clear hx
  obtain ⟨⟨ra, rn, rc⟩, ⟨wa, wn, wc⟩, ⟨ca, cn, cc⟩⟩ := h
  simp only at rl wl
  subst rl wl
  simp only [TH.cells] at L U NR NW TR TW
  show Calls Try.prog 18 #[.agg #[.slice ra t.r.length rc, .slice wa t.w.length wc, .slice ca cn cc]] w _
  cases l
  rotate_left
  · go_enter Try.func18, Try.ntmps18
    go_wp2_with fail
    refine (L.out _ (below_alloc1 _ _)).mono ?_
    rintro e w1 ⟨rfl, hw⟩
    have hc := (bcell hw).1
    go_wp2
    go_ret
    exact ⟨rfl, below_alloc hw⟩
  cases nr
  rotate_left
  · go_enter Try.func18, Try.ntmps18
    go_wp2_with fail
    refine (L.out _ (below_alloc1 _ _)).mono ?_
    rintro e w1 ⟨rfl, hw⟩
    have hc := (bcell hw).1
    go_wp2_with fail
    refine (NR.out _ (below_alloc hw)).mono ?_
    rintro e w2 ⟨rfl, rfl⟩
    go_wp2
    go_ret
    exact ⟨rfl, below_alloc hw⟩
  cases nw
  rotate_left
  · go_enter Try.func18, Try.ntmps18
    go_wp2_with fail
    refine (L.out _ (below_alloc1 _ _)).mono ?_
    rintro e w1 ⟨rfl, hw⟩
    have hc := (bcell hw).1
    go_wp2_with fail
    refine (NR.out _ (below_alloc hw)).mono ?_
    rintro e w2 ⟨rfl, rfl⟩
    go_wp2_with fail
    refine (NW.out _ (below_alloc hw)).mono ?_
    rintro e w2 ⟨rfl, rfl⟩
    go_wp2
    go_ret
    exact ⟨rfl, below_alloc hw⟩
  cases tr
  rotate_left
  · go_enter Try.func18, Try.ntmps18
    go_wp2_with fail
    refine (L.out _ (below_alloc1 _ _)).mono ?_
    rintro e w1 ⟨rfl, hw⟩
    have hc := (bcell hw).1
    go_wp2_with fail
    refine (NR.out _ (below_alloc hw)).mono ?_
    rintro e w2 ⟨rfl, rfl⟩
    go_wp2_with fail
    refine (NW.out _ (below_alloc hw)).mono ?_
    rintro e w2 ⟨rfl, rfl⟩
    go_wp2_with fail
    refine (TR.out _ (below_alloc hw)).mono ?_
    rintro e w2 ⟨rfl, rfl⟩
    go_wp2
    go_ret
    exact ⟨rfl, below_alloc hw⟩
  cases tw
  rotate_left
  · go_enter Try.func18, Try.ntmps18
    go_wp2_with fail
    refine (L.out _ (below_alloc1 _ _)).mono ?_
    rintro e w1 ⟨rfl, hw⟩
    have hc := (bcell hw).1
    go_wp2_with fail
    refine (NR.out _ (below_alloc hw)).mono ?_
    rintro e w2 ⟨rfl, rfl⟩
    go_wp2_with fail
    refine (NW.out _ (below_alloc hw)).mono ?_
    rintro e w2 ⟨rfl, rfl⟩
    go_wp2_with fail
    refine (TR.out _ (below_alloc hw)).mono ?_
    rintro e w2 ⟨rfl, rfl⟩
    go_wp2_with fail
    refine (TW.out _ (below_alloc hw)).mono ?_
    rintro e w2 ⟨rfl, rfl⟩
    go_wp2
    go_ret
    exact ⟨rfl, below_alloc hw⟩
  cases u
  · go_enter Try.func18, Try.ntmps18
    go_wp2_with fail
    refine (L.out _ (below_alloc1 _ _)).mono ?_
    rintro e w1 ⟨rfl, hw⟩
    have hc := (bcell hw).1
    go_wp2_with fail
    refine (NR.out _ (below_alloc hw)).mono ?_
    rintro e w2 ⟨rfl, rfl⟩
    go_wp2_with fail
    refine (NW.out _ (below_alloc hw)).mono ?_
    rintro e w2 ⟨rfl, rfl⟩
    go_wp2_with fail
    refine (TR.out _ (below_alloc hw)).mono ?_
    rintro e w2 ⟨rfl, rfl⟩
    go_wp2_with fail
    refine (TW.out _ (below_alloc hw)).mono ?_
    rintro e w2 ⟨rfl, rfl⟩
    go_wp2_with fail
    refine (U.out _ (below_alloc hw)).mono ?_
    rintro e w2 ⟨rfl, hw2⟩
    go_wp2
    go_ret
    exact ⟨rfl, below_on (below_alloc hw) hw2⟩
  · go_enter Try.func18, Try.ntmps18
    go_wp2_with fail
    refine (L.out _ (below_alloc1 _ _)).mono ?_
    rintro e w1 ⟨rfl, hw⟩
    have hc := (bcell hw).1
    go_wp2_with fail
    refine (NR.out _ (below_alloc hw)).mono ?_
    rintro e w2 ⟨rfl, rfl⟩
    go_wp2_with fail
    refine (NW.out _ (below_alloc hw)).mono ?_
    rintro e w2 ⟨rfl, rfl⟩
    go_wp2_with fail
    refine (TR.out _ (below_alloc hw)).mono ?_
    rintro e w2 ⟨rfl, rfl⟩
    go_wp2_with fail
    refine (TW.out _ (below_alloc hw)).mono ?_
    rintro e w2 ⟨rfl, rfl⟩
    go_wp2_with fail
    refine (U.out _ (below_alloc hw)).mono ?_
    rintro e w2 ⟨rfl, hw2⟩
    go_wp2
    go_ret
    exact ⟨rfl, below_on (below_alloc hw) hw2⟩

set_option maxHeartbeats 400000 in
theorem sCheck_any (h : TH) (t : Tx) (w : World) (hx : TxAt w h t) :
    Calls Try.prog 6 #[.agg h.cells] w fun e w' => e = .returned (.int .i64 (checkN t)) ∧ Below w.heap.size w w' := by
  have L := hide (fun wx (hb : Below w.heap.size w wx) => Fault_any h t wx (hx.below hb))
  clear hx
  obtain ⟨⟨ra, rn, rc⟩, ⟨wa, wn, wc⟩, ⟨ca, cn, cc⟩⟩ := h
  simp only [TH.cells] at L
  show Calls Try.prog 6 #[.agg #[.slice ra rn rc, .slice wa wn wc, .slice ca cn cc]] w _
  go_enter Try.func6, Try.ntmps6
  go_wp2_with fail
  refine (L.out _ (below_alloc1 _ _)).mono ?_
  rintro e w1 ⟨rfl, hw⟩
  generalize hr : checkN t = r
  have HR := hide hr
  clear hr
  go_wp2
  go_ret
  exact ⟨ret_int HR.out.symm, below_alloc hw⟩

end Go.Proofs.Ytlheloogmgmjnaa
