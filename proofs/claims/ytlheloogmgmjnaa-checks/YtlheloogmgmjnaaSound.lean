import Derived.Test.YtlheloogmgmjnaaProg
import Derived.Test.YtlheloogmgmjnaaMem
namespace Go.Proofs.Ytlheloogmgmjnaa
open Go.RowKit

def bel (n t : Int) : Bool := decide (0 ≤ n ∧ n < t)

set_option maxHeartbeats 400000 in
theorem sbelow_any (n t : Int) (w : World) :
    Calls Try.prog 80 #[.int .i64 n, .int .i64 t] w fun e w' => e = .returned (.bool (bel n t)) ∧ w' = w := by
  by_cases h : 0 ≤ n
  · have hb : bel n t = decide (n < t) := by simp [bel, h]
    rw [hb]
    go_enter Try.func80, Try.ntmps80
    go_wp2
    go_ret
    exact ⟨rfl, rfl⟩
  · have hb : bel n t = false := by simp [bel, h]
    rw [hb]
    go_enter Try.func80, Try.ntmps80
    go_wp2
    go_ret
    exact ⟨rfl, rfl⟩

set_option maxHeartbeats 400000 in
theorem isRegister_any (n : Int) (w : World) :
    Calls Try.prog 83 #[.int .i64 n] w fun e w' => e = .returned (.bool (bel n 6)) ∧ w' = w := by
  go_enter Try.func83, Try.ntmps83
  go_wp2_with (go_at_call 80; refine (sbelow_any _ _ _).mono ?_; rintro e w' ⟨rfl, rfl⟩)
  go_ret
  exact ⟨rfl, rfl⟩

set_option maxHeartbeats 400000 in
theorem IsKey_any (n : Int) (w : World) :
    Calls Try.prog 62 #[.int .i64 n] w fun e w' => e = .returned (.bool (bel n 24)) ∧ w' = w := by
  go_enter Try.func62, Try.ntmps62
  go_wp2_with (go_at_call 80; refine (sbelow_any _ _ _).mono ?_; rintro e w' ⟨rfl, rfl⟩)
  go_ret
  exact ⟨rfl, rfl⟩

set_option maxHeartbeats 400000 in
theorem hasNoKey1_any (n : Int) (w : World) :
    Calls Try.prog 61 #[.int .i64 n] w fun e w' => e = .returned (.bool (!bel n 24)) ∧ w' = w := by
  go_enter Try.func61, Try.ntmps61
  go_wp2_with (go_at_call 62; refine (IsKey_any _ _).mono ?_; rintro e w' ⟨rfl, rfl⟩)
  go_ret
  exact ⟨rfl, rfl⟩

theorem any_take_succ {α : Type} (xs : List α) (p : α → Bool) (d : α) {k : Nat} (hk : k < xs.length) : (xs.take (k + 1)).any p = ((xs.take k).any p || p (xs.getD k d)) := by
  rw [List.take_succ_eq_append_getElem hk, List.any_append]; simp [List.getD, hk]

theorem any_of_take {α : Type} (xs : List α) (p : α → Bool) (d : α) {k : Nat} (hk : k < xs.length) (h : p (xs.getD k d) = true) : xs.any p = true := by
  rw [List.any_eq_true]; exact ⟨xs[k], List.getElem_mem hk, by simpa [List.getD, hk] using h⟩

set_option maxHeartbeats 400000 in
theorem IndexFuncI_any (ao : Option Addr) (cap : Nat) (xs : List Int) (w : World) (hx : IntsAt w ao xs) (hl : xs.length * 8 ≤ 140737488351232) :
    Calls Try.prog 79 #[.slice ao xs.length cap, .func (.func 61) #[] #[]] w fun e w' => (∃ v : Int, e = .returned (.int .i64 v) ∧ decide (0 ≤ v) = xs.any fun n => !bel n 24) ∧ w' = w := by
  go_enter Try.func79, Try.ntmps79
  go_wp2
  go_loop [8] (fun t => ∃ k : Nat, k ≤ xs.length ∧ t = .int .i64 k ∧ (xs.take k).any (fun n => !bel n 24) = false) (fun t => xs.length - (intOf t).toNat)
  case atStart => exact ⟨0, Nat.zero_le _, rfl, by simp⟩
  case round =>
    obtain ⟨k, hk, rfl, hn⟩ := hrel
    by_cases hlt : k < xs.length
    · obtain ⟨b, o, rfl, hc, _⟩ := hx.at hlt
      have hck := hc k hlt
      have hs := any_take_succ xs (fun n => !bel n 24) 0 hlt
      have ha := any_of_take xs (fun n => !bel n 24) 0 hlt
      generalize xs.getD k 0 = y at *
      rw [hn] at hs
      have HS := hide hs; have HA := hide ha
      clear hs ha hn hc hx
      by_cases hp : bel y 24 = true
      · go_wp2_with (go_at_call 61; refine (hasNoKey1_any _ _).mono ?_; rintro e w' ⟨rfl, rfl⟩)
        go_round
        case rel => exact ⟨k + 1, by omega, by go_num, by rw [HS.out, hp]; rfl⟩
        case measure => simp [intOf]; omega
      · go_wp2_with (go_at_call 61; refine (hasNoKey1_any _ _).mono ?_; rintro e w' ⟨rfl, rfl⟩)
        go_ret
        exact ⟨⟨_, rfl, by rw [HA.out (by simpa using hp)]; simp⟩, rfl⟩
    · go_wp2
      go_ret
      refine ⟨⟨_, rfl, ?_⟩, rfl⟩
      rw [List.take_of_length_le (by omega)] at hn
      rw [hn]; rfl

set_option maxHeartbeats 400000 in
theorem ContainsFuncI_any (ao : Option Addr) (cap : Nat) (xs : List Int) (w : World) (hx : IntsAt w ao xs) (hl : xs.length * 8 ≤ 140737488351232) :
    Calls Try.prog 60 #[.slice ao xs.length cap, .func (.func 61) #[] #[]] w fun e w' => e = .returned (.bool (xs.any fun n => !bel n 24)) ∧ w' = w := by
  go_enter Try.func60, Try.ntmps60
  go_wp2_with fail
  refine (IndexFuncI_any ao cap xs _ hx hl).mono ?_
  rintro e w' ⟨⟨v, rfl, hv⟩, rfl⟩
  have HV := hide hv
  clear hv
  go_wp2
  go_ret
  exact ⟨by rw [← HV.out]; rfl, rfl⟩

set_option maxHeartbeats 400000 in
theorem hasNoKey_any (ao : Option Addr) (cap : Nat) (xs : List Int) (w : World) (hx : IntsAt w ao xs) (hl : xs.length * 8 ≤ 140737488351232) :
    Calls Try.prog 38 #[.slice ao xs.length cap] w fun e w' => e = .returned (.bool (xs.any fun n => !bel n 24)) ∧ w' = w := by
  go_enter Try.func38, Try.ntmps38
  go_wp2_with fail
  refine (ContainsFuncI_any ao cap xs _ hx hl).mono ?_
  rintro e w' ⟨rfl, rfl⟩
  generalize hr : (xs.any fun n => !bel n 24) = r
  have HR := hide hr
  clear hr
  go_wp2
  go_ret
  exact ⟨by rw [HR.out]; rfl, rfl⟩

set_option maxHeartbeats 400000 in
theorem IndexI_any (ao : Option Addr) (cap : Nat) (xs : List Int) (y : Int) (w : World) (hx : IntsAt w ao xs) (hl : xs.length * 8 ≤ 140737488351232) :
    Calls Try.prog 81 #[.slice ao xs.length cap, .int .i64 y] w fun e w' => (∃ v : Int, e = .returned (.int .i64 v) ∧ decide (0 ≤ v) = xs.any fun z => z == y) ∧ w' = w := by
  go_enter Try.func81, Try.ntmps81
  go_wp2
  go_loop [8] (fun t => ∃ k : Nat, k ≤ xs.length ∧ t = .int .i64 k ∧ (xs.take k).any (fun z => z == y) = false) (fun t => xs.length - (intOf t).toNat)
  case atStart => exact ⟨0, Nat.zero_le _, rfl, by simp⟩
  case round =>
    obtain ⟨k, hk, rfl, hn⟩ := hrel
    by_cases hlt : k < xs.length
    · obtain ⟨b, o, rfl, hc, _⟩ := hx.at hlt
      have hck := hc k hlt
      have hs := any_take_succ xs (fun z => z == y) 0 hlt
      have ha := any_of_take xs (fun z => z == y) 0 hlt
      generalize xs.getD k 0 = z at *
      rw [hn] at hs
      have HS := hide hs; have HA := hide ha
      clear hs ha hn hc hx
      by_cases hp : z = y
      · have hp' : (y == z) = true := by simp [hp]
        have HP := hide hp
        clear hp
        go_wp2
        go_ret
        exact ⟨⟨_, rfl, by rw [HA.out (by simpa using HP.out)]; simp⟩, rfl⟩
      · have hp' : (y == z) = false := by simp; omega
        go_wp2
        go_round
        case rel => exact ⟨k + 1, by omega, by go_num, by rw [HS.out]; simp [hp]⟩
        case measure => simp [intOf]; omega
    · go_wp2
      go_ret
      refine ⟨⟨_, rfl, ?_⟩, rfl⟩
      rw [List.take_of_length_le (by omega)] at hn
      rw [hn]; rfl

set_option maxHeartbeats 400000 in
theorem ContainsI_any (ao : Option Addr) (cap : Nat) (xs : List Int) (y : Int) (w : World) (hx : IntsAt w ao xs) (hl : xs.length * 8 ≤ 140737488351232) :
    Calls Try.prog 63 #[.slice ao xs.length cap, .int .i64 y] w fun e w' => e = .returned (.bool (xs.any fun z => z == y)) ∧ w' = w := by
  go_enter Try.func63, Try.ntmps63
  go_wp2_with fail
  refine (IndexI_any ao cap xs y _ hx hl).mono ?_
  rintro e w' ⟨⟨v, rfl, hv⟩, rfl⟩
  have HV := hide hv
  clear hv
  go_wp2
  go_ret
  exact ⟨by rw [← HV.out]; rfl, rfl⟩

/-- Does a number stand among those ahead of it, up to the k-th? -/
def twiceTo (xs : List Int) (k : Nat) : Bool := (List.range k).any fun i => (xs.take i).any fun z => z == xs.getD i 0
theorem twiceTo_succ (xs : List Int) (k : Nat) : twiceTo xs (k + 1) = (twiceTo xs k || (xs.take k).any fun z => z == xs.getD k 0) := by
  simp [twiceTo, List.range_succ]
theorem twiceTo_of (xs : List Int) {k : Nat} (hk : k < xs.length) (h : ((xs.take k).any fun z => z == xs.getD k 0) = true) : twiceTo xs xs.length = true := by
  unfold twiceTo; rw [List.any_eq_true]; exact ⟨k, List.mem_range.2 hk, h⟩

theorem IntsAt.take {w : World} {ao : Option Addr} {xs : List Int} (h : IntsAt w ao xs) (k : Nat) : IntsAt w ao (xs.take k) := by
  rcases h with h | ⟨b, o, rfl, hc⟩
  · exact Or.inl (by simp [h])
  · refine Or.inr ⟨b, o, rfl, fun i hi => ?_⟩
    simp only [List.length_take] at hi
    rw [hc i (by omega)]; simp [List.getD, show i < k by omega]

set_option maxHeartbeats 400000 in
theorem hasTwice_any (ao : Option Addr) (cap : Nat) (xs : List Int) (w : World) (hx : IntsAt w ao xs) (hl : xs.length * 8 ≤ 140737488351232) (hcap : xs.length ≤ cap) :
    Calls Try.prog 39 #[.slice ao xs.length cap] w fun e w' => e = .returned (.bool (twiceTo xs xs.length)) ∧ w' = w := by
  go_enter Try.func39, Try.ntmps39
  go_wp2
  go_loop [7] (fun t => ∃ k : Nat, k ≤ xs.length ∧ t = .int .i64 k ∧ twiceTo xs k = false) (fun t => xs.length - (intOf t).toNat)
  case atStart => exact ⟨0, Nat.zero_le _, rfl, by simp [twiceTo]⟩
  case round =>
    obtain ⟨k, hk, rfl, hn⟩ := hrel
    by_cases hlt : k < xs.length
    · have ht := hx.take k
      have htl : (xs.take k).length = k := by simp; omega
      obtain ⟨b, o, rfl, hc, _⟩ := hx.at hlt
      have hck := hc k hlt
      have hs := twiceTo_succ xs k
      have ha := twiceTo_of xs hlt
      generalize xs.getD k 0 = z at *
      rw [hn] at hs
      have HS := hide hs; have HA := hide ha
      clear hs ha hn hc hx
      have cc := ContainsI_any (some ⟨b, o, none⟩) cap (xs.take k) z w ht (by omega)
      rw [htl] at cc
      have CC := hide cc
      clear cc htl
      generalize hq : (List.any (List.take k xs) fun z_1 => z_1 == z) = q at *
      clear hq
      cases q
      · go_wp2_with (go_at_call 63; refine CC.out.mono ?_; rintro e w' ⟨rfl, rfl⟩)
        go_round
        case rel => exact ⟨k + 1, by omega, by go_num, by rw [HS.out]; rfl⟩
        case measure => simp [intOf]; omega
      · go_wp2_with (go_at_call 63; refine CC.out.mono ?_; rintro e w' ⟨rfl, rfl⟩)
        go_ret
        exact ⟨ret_bool (HA.out (by simp)).symm, rfl⟩
    · go_wp2
      go_ret
      have : k = xs.length := by omega
      subst this
      exact ⟨ret_bool hn.symm, rfl⟩

def longB (t : Tx) : Bool := decide (30 < t.c.length ∨ 6 < t.r.length ∨ 6 < t.w.length)

set_option maxHeartbeats 400000 in
theorem isLong_any (h : TH) (t : Tx) (w : World) (hx : TxAt w h t) :
    Calls Try.prog 37 #[.agg h.cells] w fun e w' => e = .returned (.bool (longB t)) ∧ Below w.heap.size w w' := by
  obtain ⟨⟨ra, rn, rc⟩, ⟨wa, wn, wc⟩, ⟨ca, cn, cc⟩⟩ := h
  obtain ⟨R, W, C⟩ := t
  obtain ⟨rl, wl, cl, _, _, _, _, _, _, ri, wi, ci⟩ := hx
  simp only at rl wl cl
  subst rl wl cl
  show Calls Try.prog 37 #[.agg #[.slice ra R.length rc, .slice wa W.length wc, .slice ca C.length cc]] w _
  by_cases h1 : (30 : Int) < (C.length : Int)
  · have hb : longB ⟨R, W, C⟩ = true := by simp [longB]; omega
    have HB := hide hb
    clear hb
    go_enter Try.func37, Try.ntmps37
    go_wp2
    go_ret
    exact ⟨ret_bool HB.out.symm, (Below.refl _ _).alloc (Nat.le_refl _) _⟩
  · by_cases h2 : (6 : Int) < (R.length : Int)
    · have hb : longB ⟨R, W, C⟩ = true := by simp [longB]; omega
      have HB := hide hb
      clear hb
      go_enter Try.func37, Try.ntmps37
      go_wp2
      go_ret
      exact ⟨ret_bool HB.out.symm, (Below.refl _ _).alloc (Nat.le_refl _) _⟩
    · have hb : longB ⟨R, W, C⟩ = decide ((6 : Int) < (W.length : Int)) := by simp only [longB, decide_eq_decide]; omega
      have HB := hide hb
      clear hb
      go_enter Try.func37, Try.ntmps37
      go_wp2
      go_ret
      exact ⟨ret_bool HB.out.symm, (Below.refl _ _).alloc (Nat.le_refl _) _⟩

end Go.Proofs.Ytlheloogmgmjnaa
