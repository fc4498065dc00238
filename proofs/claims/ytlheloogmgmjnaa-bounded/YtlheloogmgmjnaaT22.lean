import Derived.Test.YtlheloogmgmjnaaT17
import Derived.Test.YtlheloogmgmjnaaT18
import Derived.Test.YtlheloogmgmjnaaT12
import Derived.Test.YtlheloogmgmjnaaT07
namespace Go.Proofs.Ytlheloogmgmjnaa
open Go.RowKit

def Tx.nil : Tx := ⟨[], [], []⟩
def TH.nil : TH := ⟨⟨none, 0, 0⟩, ⟨none, 0, 0⟩, ⟨none, 0, 0⟩⟩

/-- What the keys have when the first i have been done. -/
def behindTo (ts : List Tx) : Nat → List Slot
  | 0 => List.replicate 24 Slot.none
  | i + 1 => putTo (behindTo ts i) (ts.getD i Tx.nil).w (goCrs (ts.getD i Tx.nil) (behindTo ts i)).ws (ts.getD i Tx.nil).w.length
theorem behindTo_len (ts : List Tx) (i : Nat) : (behindTo ts i).length = 24 := by
  induction i with
  | zero => simp [behindTo]
  | succ i ih => rw [behindTo, putTo_len, ih]

/-- Transactions lie from an address on, three cells each. -/
structure TxsAt (w : World) (b o : Nat) (hs : List TH) (ts : List Tx) : Prop where
  len : hs.length = ts.length
  c0 : ∀ i, i < ts.length → w.cell? ⟨b, o + i * 3, none⟩ = some (.slice (hs.getD i TH.nil).r.a (hs.getD i TH.nil).r.n (hs.getD i TH.nil).r.c)
  c1 : ∀ i, i < ts.length → w.cell? ⟨b, o + i * 3 + 1, none⟩ = some (.slice (hs.getD i TH.nil).w.a (hs.getD i TH.nil).w.n (hs.getD i TH.nil).w.c)
  c2 : ∀ i, i < ts.length → w.cell? ⟨b, o + i * 3 + 2, none⟩ = some (.slice (hs.getD i TH.nil).c.a (hs.getD i TH.nil).c.n (hs.getD i TH.nil).c.c)
  tx : ∀ i, i < ts.length → TxAt w (hs.getD i TH.nil) (ts.getD i Tx.nil)
  chk : ∀ i, i < ts.length → checkN (ts.getD i Tx.nil) = 0

theorem TxsAt.below {w w' : World} {b o : Nat} {hs : List TH} {ts : List Tx} (h : TxsAt w b o hs ts) (hb : Below w.heap.size w w') : TxsAt w' b o hs ts :=
  ⟨h.len, fun i hi => cell_below hb (Nat.le_refl _) (h.c0 i hi), fun i hi => cell_below hb (Nat.le_refl _) (h.c1 i hi), fun i hi => cell_below hb (Nat.le_refl _) (h.c2 i hi), fun i hi => (h.tx i hi).below hb, h.chk⟩

end Go.Proofs.Ytlheloogmgmjnaa

namespace Go.Proofs.Ytlheloogmgmjnaa
open Go.RowKit

theorem getD_set_other {α : Type} (l : List α) (i k : Nat) (v d : α) (h : i ≠ k) : (l.set i v).getD k d = l.getD k d := by simp [List.getD, List.getElem?_set_ne h]

theorem oneStep_out (x : Ins) (R : List Int) (hv : List Slot) (reg : List Int) (out : List Slot) (k : Nat) (h : (nextSaid x (List.replicate (k + 1) false)).getD k false = false) : (oneStep x R hv reg out).2.getD k Slot.none = out.getD k Slot.none := by
  unfold nextSaid at h
  have key : (x.op = 8 ∨ x.op = 9) → x.a.toNat ≠ k := by
    intro ho e
    rw [if_pos ho, e] at h
    simp [List.getD] at h
  unfold oneStep
  repeat' split
  all_goals first
    | rfl
    | (have := key (by omega); simp [List.getD, List.getElem?_set_ne this])

theorem nextSaid_get (x : Ins) (said : List Bool) (k : Nat) (hk : k < said.length) (h : (nextSaid x said).getD k false = false) : said.getD k false = false ∧ (nextSaid x (List.replicate (k + 1) false)).getD k false = false := by
  unfold nextSaid at *
  by_cases ho : x.op = 8 ∨ x.op = 9
  · rw [if_pos ho] at *
    by_cases e : x.a.toNat = k
    · rw [e] at h; simp [List.getD, hk] at h
    · rw [getD_set_other _ _ _ _ _ e] at h ⊢
      exact ⟨h, by simp [List.getD]⟩
  · rw [if_neg ho] at *
    exact ⟨h, by simp [List.getD]⟩

/-- What is not said is as it was. -/
theorem gst_unsaid (t : Tx) (hv : List Slot) : ∀ (n k : Nat), k < t.w.length → (gst t hv n).said.getD k false = false → (gst t hv n).out.getD k Slot.none = (befOf t hv).getD k Slot.none
  | 0, _, _, _ => rfl
  | n + 1, k, hk, h => by
    obtain ⟨h1, h2⟩ := nextSaid_get ((gst t hv n).ins t) (gst t hv n).said k (by rw [(gst_len t hv n).2.2]; exact hk) h
    rw [← gst_unsaid t hv n k hk h1]
    exact oneStep_out _ _ _ _ _ k h2

theorem goCrs_unsaid (t : Tx) (hv : List Slot) (k : Nat) (hk : k < t.w.length) (h : (goCrs t hv).said.getD k false = false) : (goCrs t hv).ws.getD k Slot.none = (befOf t hv).getD k Slot.none := by
  obtain ⟨n, hn, hr, he | ⟨h1, h2⟩⟩ := goCrs_ends t hv
  · rw [goCrs_end t hv n hr he] at h ⊢
    exact gst_unsaid t hv n k hk h
  · rw [goCrs_abort t hv n hr h1 h2]

/-- No key stands twice. -/
theorem twice_none {xs : List Int} (h : twiceTo xs xs.length = false) {i j : Nat} (hij : i < j) (hj : j < xs.length) : xs.getD i 0 ≠ xs.getD j 0 := by
  intro e
  unfold twiceTo at h
  rw [List.any_eq_false] at h
  have h1 := h j (List.mem_range.2 hj)
  rw [Bool.not_eq_true, List.any_eq_false] at h1
  have hi : i < xs.length := by omega
  have hm : xs.getD i 0 ∈ xs.take j := by
    rw [List.getD, List.getElem?_eq_getElem hi]
    rw [List.mem_take_iff_getElem]
    exact ⟨i, by omega, rfl⟩
  exact h1 _ hm (by simpa using e)

theorem checkN_apart {t : Tx} (h : checkN t = 0) : twiceTo t.w t.w.length = false := by
  unfold checkN at h
  split at h
  · cases h
  · split at h
    · cases h
    · split at h
      · cases h
      · rename_i h4
        simp at h4
        exact h4.2

/-- What the keys have when slots have been laid: a key that is not among them; one that is. -/
theorem putTo_other (hv : List Slot) (ks : List Int) (ws : List Slot) (key : Nat) : ∀ n, (∀ i, i < n → (ks.getD i 0).toNat ≠ key) → (putTo hv ks ws n).getD key Slot.none = hv.getD key Slot.none
  | 0, _ => rfl
  | n + 1, h => by
    have := h n (by omega)
    rw [putTo]
    rw [getD_set_other _ _ _ _ _ this]
    exact putTo_other hv ks ws key n (fun i hi => h i (by omega))

theorem putTo_at (hv : List Slot) (ks : List Int) (ws : List Slot) (key k : Nat) (hkey : key < hv.length) : ∀ n, k < n → (ks.getD k 0).toNat = key → (∀ i, k < i → i < n → (ks.getD i 0).toNat ≠ key) → (putTo hv ks ws n).getD key Slot.none = ws.getD k Slot.none
  | 0, h, _, _ => by omega
  | n + 1, h, hk, ho => by
    rw [putTo]
    by_cases e : k = n
    · subst e
      rw [hk]
      simp [List.getD, putTo_len, hkey]
    · have := ho n (by omega) (by omega)
      rw [getD_set_other _ _ _ _ _ this]
      exact putTo_at hv ks ws key k hkey n (by omega) hk (fun i h1 h2 => ho i h1 (by omega))

/-- What a transaction makes of a key: what it said of it, or what was. -/
theorem putTo_go {t : Tx} (hc : checkN t = 0) {hv : List Slot} (hl : hv.length = 24) (key : Nat) (hkey : key < 24) :
    (putTo hv t.w (goCrs t hv).ws t.w.length).getD key Slot.none =
      (if 0 ≤ firstN (fun k => t.w.getD k 0 == (key : Int)) t.w.length ∧ (goCrs t hv).said.getD (firstN (fun k => t.w.getD k 0 == (key : Int)) t.w.length).toNat false = true
       then (goCrs t hv).ws.getD (firstN (fun k => t.w.getD k 0 == (key : Int)) t.w.length).toNat Slot.none else hv.getD key Slot.none) := by
  have hkw := (checkN_sound t hc).2.2.2.2.1
  by_cases hex : ∃ k, k < t.w.length ∧ t.w.getD k 0 = (key : Int)
  · obtain ⟨k, hk, hke⟩ := hex
    have huniq : ∀ j, j < t.w.length → j ≠ k → t.w.getD j 0 ≠ (key : Int) := by
      intro j hj hjk e
      rcases Nat.lt_or_gt_of_ne hjk with h | h
      · exact twice_none (checkN_apart hc) h hk (e.trans hke.symm)
      · exact twice_none (checkN_apart hc) h hj (hke.trans e.symm)
    have hf : firstN (fun k => t.w.getD k 0 == (key : Int)) t.w.length = k := firstN_at hk (by simpa using hke) (fun j hj => by simpa using huniq j (by omega) (by omega))
    rw [hf, putTo_at hv t.w (goCrs t hv).ws key k (by omega) t.w.length hk (by rw [hke]; simp) (fun i h1 h2 e => by
      have h3 := hkw (t.w.getD i 0) (by rw [List.getD, List.getElem?_eq_getElem h2]; exact List.getElem_mem h2)
      exact huniq i h2 (by omega) (by omega))]
    simp only [Int.toNat_natCast]
    by_cases hs : (goCrs t hv).said.getD k false = true
    · rw [if_pos ⟨by omega, hs⟩]
    · rw [if_neg (fun h => hs h.2)]
      rw [goCrs_unsaid t hv k hk (by simpa using hs)]
      unfold befOf
      have : (t.w.map fun k => hv.getD k.toNat Slot.none).getD k Slot.none = hv.getD (t.w.getD k 0).toNat Slot.none := by simp [List.getD, hk]
      rw [this, hke]
      simp
  · have hno : ∀ j, j < t.w.length → t.w.getD j 0 ≠ (key : Int) := fun j hj e => hex ⟨j, hj, e⟩
    have hf : firstN (fun k => t.w.getD k 0 == (key : Int)) t.w.length = -1 := firstN_none (fun j hj => by simpa using hno j hj)
    rw [hf, if_neg (by omega), putTo_other hv t.w (goCrs t hv).ws key t.w.length (fun i hi e => by
      have h3 := hkw (t.w.getD i 0) (by rw [List.getD, List.getElem?_eq_getElem hi]; exact List.getElem_mem hi)
      exact hno i hi (by omega))]

end Go.Proofs.Ytlheloogmgmjnaa

namespace Go.Proofs.Ytlheloogmgmjnaa
open Go.RowKit

/-- What a key has behind the first n: what the greatest of them that has said something of it has said. -/
def valueIn (l : List Tsk) (key : Nat) : Nat → Slot
  | 0 => Slot.none
  | i + 1 =>
    match l[i]? with
    | none => Slot.none
    | some t =>
      if 0 ≤ firstN (fun k => t.tx.w.getD k 0 == (key : Int)) t.tx.w.length ∧ t.crs.said.getD (firstN (fun k => t.tx.w.getD k 0 == (key : Int)) t.tx.w.length).toNat false = true
      then t.crs.ws.getD (firstN (fun k => t.tx.w.getD k 0 == (key : Int)) t.tx.w.length).toNat Slot.none else valueIn l key i

/-- Each course is that of the serial outcome. -/
def SerialCrs (l : List Tsk) : Prop := ∀ i (hi : i < l.length), (l[i]).crs = goCrs (l[i]).tx (behindTo (l.map (·.tx)) i)

theorem behindTo_value (l : List Tsk) (hs : SerialCrs l) (hc : ∀ t ∈ l, checkN t.tx = 0) (key : Nat) (hkey : key < 24) : ∀ n, n ≤ l.length → (behindTo (l.map (·.tx)) n).getD key Slot.none = valueIn l key n
  | 0, _ => by
    show (List.replicate 24 Slot.none).getD key Slot.none = Slot.none
    rw [List.getD, List.getElem?_replicate]
    split <;> rfl
  | n + 1, hn => by
    have hl : n < l.length := by omega
    have ih := behindTo_value l hs hc key hkey n (by omega)
    have e : (l.map (·.tx)).getD n Tx.nil = (l[n]).tx := by simp [List.getD, hl]
    rw [behindTo, e, putTo_go (hc _ (List.getElem_mem hl)) (behindTo_len _ _) key hkey, ← hs n hl, ih]
    simp only [valueIn, List.getElem?_eq_getElem hl]

/-- As long as nothing has gone: which of its keys it is. -/
theorem wr_plain {t : Tsk} (hg : t.gone = List.replicate t.tx.w.length false) (key : Nat) : t.wr (key : Int) = firstN (fun k => t.tx.w.getD k 0 == (key : Int)) t.tx.w.length := by
  unfold Tsk.wr
  rw [hg]
  have : (fun k => t.tx.w.getD k 0 == (key : Int) && !(List.replicate t.tx.w.length false).getD k false) = (fun k => t.tx.w.getD k 0 == (key : Int)) := by
    funext k
    have : (List.replicate t.tx.w.length false).getD k false = false := by
      simp only [List.getD, List.getElem?_replicate]
      split <;> rfl
    rw [this]; simp
  rw [this]

end Go.Proofs.Ytlheloogmgmjnaa
