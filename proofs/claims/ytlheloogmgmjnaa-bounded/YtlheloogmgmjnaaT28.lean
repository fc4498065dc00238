import Derived.Test.YtlheloogmgmjnaaT14
import Derived.Test.YtlheloogmgmjnaaT22
import Derived.Test.YtlheloogmgmjnaaT12
namespace Go.Proofs.Ytlheloogmgmjnaa
open Go.RowKit

/-- What the version of the i-th transaction (from 0 on) of a key is. -/
def verOf (t : Tsk) (i : Nat) (key : Int) : Ver :=
  if t.ended then (if t.crs.said.getD (t.wr key).toNat false then ⟨i + 1, 2, (t.crs.ws.getD (t.wr key).toNat Slot.none).v, (t.crs.ws.getD (t.wr key).toNat Slot.none).th⟩ else ⟨i + 1, 1, 0, false⟩) else ⟨i + 1, 0, 0, false⟩
def tailV : Option Tsk → Nat → Int → List Ver
  | none, _, _ => []
  | some t, i, key => if 0 ≤ t.wr key then [verOf t i key] else []
def versL (l : List Tsk) (key : Int) : Nat → List Ver
  | 0 => []
  | i + 1 => versL l key i ++ tailV l[i]? i key

theorem verOf_txn (t : Tsk) (i : Nat) (key : Int) : (verOf t i key).txn = i + 1 := by
  unfold verOf; repeat' split
  all_goals rfl

theorem versL_txn (l : List Tsk) (key : Int) : ∀ (m : Nat), ∀ x ∈ versL l key m, 1 ≤ x.txn ∧ x.txn ≤ m
  | 0, x, hx => by simp [versL] at hx
  | m + 1, x, hx => by
    rw [versL, List.mem_append] at hx
    rcases hx with hx | hx
    · have := versL_txn l key m x hx; omega
    · unfold tailV at hx
      split at hx
      · simp at hx
      · split at hx
        · simp at hx; subst hx; rw [verOf_txn]; omega
        · simp at hx

theorem versL_length (l : List Tsk) (key : Int) : ∀ (m : Nat), (versL l key m).length ≤ m
  | 0 => Nat.le_refl _
  | m + 1 => by
    have := versL_length l key m
    rw [versL, List.length_append]
    unfold tailV
    repeat' split
    all_goals simp <;> omega

theorem behindV_take (l m : List Ver) (n : Int) : ∀ i, i ≤ l.length → behindV (l ++ m) n i = behindV l n i
  | 0, _ => rfl
  | i + 1, h => by
    have e : (l ++ m).getD i Ver.zero = l.getD i Ver.zero := by simp [List.getD, List.getElem?_append_left (show i < l.length by omega)]
    rw [behindV, behindV, e, behindV_take l m n i (by omega)]
theorem behindV_snoc (l : List Ver) (x : Ver) (n : Int) : behindV (l ++ [x]) n (l ++ [x]).length = if n < (x.txn : Int) then behindV l n l.length else if x.st = 1 then behindV l n l.length else (x.v, x.th, x.st == 2) := by
  have e : (l ++ [x]).getD l.length Ver.zero = x := by simp [List.getD]
  rw [List.length_append, List.length_singleton, behindV, e, behindV_take l [x] n _ (Nat.le_refl _)]

/-- Versions of later transactions are not looked at. -/
theorem behindV_cut (l : List Tsk) (key : Int) (n : Nat) : ∀ m, n ≤ m → behindV (versL l key m) n (versL l key m).length = behindV (versL l key n) n (versL l key n).length
  | 0, h => by obtain rfl : n = 0 := by omega
               rfl
  | m + 1, h => by
    by_cases e : n = m + 1
    · subst e; rfl
    · have ih := behindV_cut l key n m (by omega)
      rw [versL]
      unfold tailV
      split
      · rw [List.append_nil]; exact ih
      · rename_i t _
        split
        · rw [behindV_snoc, verOf_txn, if_pos (by omega)]; exact ih
        · rw [List.append_nil]; exact ih

/-- What Behind finds, against the document's words: it must wait; or the value of the serial outcome. -/
theorem behindV_value (l : List Tsk) (key : Nat) (hg : ∀ t ∈ l, t.gone = List.replicate t.tx.w.length false) (N : Int) : ∀ n, n ≤ l.length → (n : Int) ≤ N →
    (waitsIn l (key : Int) n = true → (behindV (versL l key n) N (versL l key n).length).2.2 = false) ∧
    (waitsIn l (key : Int) n = false → behindV (versL l key n) N (versL l key n).length = ((valueIn l key n).v, (valueIn l key n).th, true))
  | 0, _, _ => by simp [waitsIn, versL, behindV, valueIn, Slot.none]
  | n + 1, hn, hN => by
    obtain ⟨ih1, ih2⟩ := behindV_value l key hg N n (by omega) (by omega)
    have hl : n < l.length := by omega
    have hgl := hg l[n] (List.getElem_mem hl)
    rw [waitsIn_succ hl]
    simp only [versL, tailV, valueIn, List.getElem?_eq_getElem hl]
    rw [wr_plain hgl key]
    have hwr := wr_plain hgl key
    generalize firstN (fun k => l[n].tx.w.getD k 0 == (key : Int)) l[n].tx.w.length = q at *
    have hX : behindV (versL l key n ++ [verOf l[n] n key]) N (versL l key n ++ [verOf l[n] n key]).length = if (verOf l[n] n key).st = 1 then behindV (versL l key n) N (versL l key n).length else ((verOf l[n] n key).v, (verOf l[n] n key).th, (verOf l[n] n key).st == 2) := by
      rw [behindV_snoc, verOf_txn, if_neg (show ¬ N < ((n + 1 : Nat) : Int) by omega)]
    by_cases h0 : 0 ≤ q
    · simp only [h0, if_true, true_and]
      rw [hX]
      cases hen : l[n].ended
      · have hv : verOf l[n] n key = ⟨n + 1, 0, 0, false⟩ := by simp [verOf, hen]
        rw [hv]
        simp
      · cases hsd : l[n].crs.said.getD q.toNat false
        · have hv : verOf l[n] n key = ⟨n + 1, 1, 0, false⟩ := by
            unfold verOf
            rw [hwr, hen, hsd]
            rfl
          rw [hv]
          simpa using ⟨ih1, ih2⟩
        · have hv : verOf l[n] n key = ⟨n + 1, 2, (l[n].crs.ws.getD q.toNat Slot.none).v, (l[n].crs.ws.getD q.toNat Slot.none).th⟩ := by
            unfold verOf
            rw [hwr, hen, hsd]
            rfl
          rw [hv]
          simp
    · simp only [h0, if_false, false_and, List.append_nil]
      exact ⟨ih1, ih2⟩

end Go.Proofs.Ytlheloogmgmjnaa
