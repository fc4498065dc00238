import Derived.Test.YtlheloogmgmjnaaT10
import Derived.Test.YtlheloogmgmjnaaT12
namespace Go.Proofs.Ytlheloogmgmjnaa
open Go.RowKit

theorem wholeB_cons (e : Nat) (l : List Nat) (n : Nat) : wholeB (e :: l) n = if e ≤ n then wholeB l n + 1 else 0 := by
  unfold wholeB
  rw [List.takeWhile_cons]
  by_cases h : e ≤ n <;> simp [h]
theorem whole_count {l : List Nat} (h : l.Pairwise (· < ·)) (n : Nat) : l.countP (fun e => decide (e ≤ n)) = wholeB l n := by
  induction l with
  | nil => rfl
  | cons e l ih =>
    have hp := List.pairwise_cons.1 h
    rw [wholeB_cons, List.countP_cons, ih hp.2]
    by_cases he : e ≤ n
    · simp [he]
    · rw [if_neg he]
      have : wholeB l n = 0 := by
        cases l with
        | nil => rfl
        | cons f l => rw [wholeB_cons, if_neg (by have := hp.1 f (by simp); omega)]
      simp [he, this]
theorem mark_fold {l : List Nat} (h : l.Pairwise (· < ·)) (n : Nat) : ∀ a : Nat, l.foldl (fun m e => if e ≤ n then e else m) a = if wholeB l n = 0 then a else l.getD (wholeB l n - 1) 0 := by
  induction l with
  | nil => intro a; rfl
  | cons e l ih =>
    intro a
    have hp := List.pairwise_cons.1 h
    rw [List.foldl_cons, ih hp.2, wholeB_cons]
    by_cases he : e ≤ n
    · simp only [he, if_true]
      by_cases h0 : wholeB l n = 0
      · simp [h0]
      · obtain ⟨k, hk⟩ : ∃ k, wholeB l n = k + 1 := ⟨wholeB l n - 1, by omega⟩
        rw [hk]
        simp
    · simp only [he, if_false]
      have : wholeB l n = 0 := by
        cases l with
        | nil => rfl
        | cons f l => rw [wholeB_cons, if_neg (by have := hp.1 f (by simp); omega)]
      simp [this]
theorem mark_whole {l : List Nat} (h : l.Pairwise (· < ·)) (n : Nat) : markOf n l = lastOfN l (wholeB l n) := by
  unfold markOf lastOfN
  exact mark_fold h n 0

/-- The least of some numbers. -/
def minOf : List Nat → Nat → Nat
  | [], a => a
  | x :: l, a => minOf l (min a x)
theorem le_minOf (e : Nat) : ∀ (l : List Nat) (a : Nat), e ≤ minOf l a ↔ e ≤ a ∧ ∀ x ∈ l, e ≤ x
  | [], a => by simp [minOf]
  | x :: l, a => by
    rw [minOf, le_minOf e l]
    simp only [List.mem_cons, forall_eq_or_imp]
    constructor
    · rintro ⟨h1, h2⟩; exact ⟨by omega, by omega, h2⟩
    · rintro ⟨h1, h2, h3⟩; exact ⟨by omega, h3⟩

end Go.Proofs.Ytlheloogmgmjnaa
