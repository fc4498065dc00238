import Derived.Test.YtlheloogmgmjnaaT09
import Derived.Laws.IdiomRangeMap
import Derived.Test.YtlheloogmgmjnaaT07
namespace Go.Proofs.Ytlheloogmgmjnaa
open Go.RowKit Go.MapKept

structure IMapAt (w : World) (g : Nat) (f : Nat → Option Sl) : Prop where
  ex : ∃ es clock, w.heap[g]? = some (.map es clock) ∧ Stamped es clock ∧ (∀ e ∈ es.toList, ∃ (k : Nat) (s : Sl), e.key = .int .i64 k ∧ e.val = s.val ∧ f k = some s) ∧ (∀ k s, f k = some s → ∃ e ∈ es.toList, e.key = .int .i64 (k : Nat) ∧ e.val = s.val)

theorem IMapAt.lt {w : World} {g : Nat} {f : Nat → Option Sl} (h : IMapAt w g f) : g < w.heap.size := by
  obtain ⟨es, c, hb, _⟩ := h.ex
  exact blk_of_map hb
theorem IMapAt.chg {w w' : World} {D : Nat → Prop} {g : Nat} {f : Nat → Option Sl} (h : IMapAt w g f) (hc : Chg w w' D) (hd : ¬ D g) : IMapAt w' g f := by
  obtain ⟨es, c, hb, hs, h1, h2⟩ := h.ex
  exact ⟨es, c, by rw [hc.block g (blk_of_map hb) hd]; exact hb, hs, h1, h2⟩
theorem IMapAt.below {w w' : World} {g : Nat} {f : Nat → Option Sl} (h : IMapAt w g f) (hb : Below w.heap.size w w') : IMapAt w' g f := h.chg (Chg.of_below hb (fun _ => False)) id
theorem IMapAt.made {w : World} {g : Nat} (h : w.heap[g]? = some (.map #[] 0)) : IMapAt w g (fun _ => none) := ⟨#[], 0, h, stamped_empty 0, by simp, by simp⟩

theorem isKey_int (k : Int) : IsKey (.int .i64) (.int .i64 k) := by simp [IsKey]

theorem IMapAt.run_lookup {P : Program} {w : World} {g : Nat} {f : Nat → Option Sl} (h : IMapAt w g f) (t kt et : TypeId) (hm : P.underlying t = some (.map kt et)) (hd : P.underlying kt = some (.int .i64)) (hz : (zeroValue et).run P w = .ok (.slice none 0 0) w) (k : Nat) :
    (Instr.lookup t (.map (some g)) (.int .i64 k) false).run P w = .ok (((f k).getD Sl.nil).val) w := by
  obtain ⟨es, c, hb, hs, h1, h2⟩ := h.ex
  have hks : ∀ x ∈ es.toList, IsKey (.int .i64) x.key := fun x hx => by obtain ⟨k, s, e, _⟩ := h1 x hx; rw [e]; exact isKey_int _
  rcases findNow_spec (isKey_int (k : Int)) es.toList 0 hks with ⟨g1, g2⟩ | ⟨j, e, g1, g2, g3⟩
  · have hf : f k = none := by
      cases hq : f k with
      | none => rfl
      | some s =>
        obtain ⟨e, he, hk, _⟩ := h2 k s hq
        exact absurd hk (g2 e he)
    simp [Instr.lookup, run_underlying hm, MapKept.run_getObj_map hb, run_checkKey hd (isKey_int _), run_findKey hd g1, hz, Result.andThen, hf, Sl.val, Sl.nil]
  · obtain ⟨k', s, e1, e2, e3⟩ := h1 e (List.mem_of_getElem? g2)
    have hkk : k' = k := by rw [e1] at g3; simp at g3; omega
    subst hkk
    simp [Instr.lookup, run_underlying hm, MapKept.run_getObj_map hb, run_checkKey hd (isKey_int _), run_findKey hd g1, Result.andThen, e3, e2]

theorem IMapAt.run_update {P : Program} {w : World} {g : Nat} {f : Nat → Option Sl} (h : IMapAt w g f) (t kt et : TypeId) (hm : P.underlying t = some (.map kt et)) (hd : P.underlying kt = some (.int .i64)) (k : Nat) (s : Sl) :
    ∃ w', (Instr.mapUpdate t (.map (some g)) (.int .i64 k) s.val).run P w = .ok () w' ∧ IMapAt w' g (fun j => if j = k then some s else f j) ∧ Chg w w' (· = g) ∧ w'.heap.size = w.heap.size := by
  obtain ⟨es, c, hb, hs, h1, h2⟩ := h.ex
  have hks : ∀ x ∈ es.toList, IsKey (.int .i64) x.key := fun x hx => by obtain ⟨k, s, e, _⟩ := h1 x hx; rw [e]; exact isKey_int _
  have chg : ∀ o, Chg w { w with heap := w.heap.setIfInBounds g o } (· = g) := fun o =>
    ⟨rfl, rfl, rfl, by simp, fun r _ hne => by simp [Ne.symm hne]⟩
  rcases findNow_spec (isKey_int (k : Int)) es.toList 0 hks with ⟨g1, g2⟩ | ⟨j, e, g1, g2, g3⟩
  · refine ⟨_, by simp [Instr.mapUpdate, run_underlying hm, MapKept.run_getObj_map hb, run_checkKey hd (isKey_int _), run_findKey hd g1, MapKept.run_setObj_map _ hb, Result.andThen]; rfl, ⟨_, _, (heap_set hb).1, stamped_push hs g2, ?_, ?_⟩, chg _, by simp⟩
    · intro x hx
      simp only [Array.toList_push, List.mem_append, List.mem_singleton] at hx
      rcases hx with hx | rfl
      · obtain ⟨k', s', e1, e2, e3⟩ := h1 x hx
        have hne : k' ≠ k := fun hq => g2 x hx (by rw [e1, hq])
        exact ⟨k', s', e1, e2, by simp [hne, e3]⟩
      · exact ⟨k, s, rfl, rfl, by simp⟩
    · intro k' s' hq
      by_cases hkk : k' = k
      · subst hkk
        simp at hq; subst hq
        exact ⟨⟨.int .i64 k', s.val, c⟩, by simp, rfl, rfl⟩
      · simp [hkk] at hq
        obtain ⟨x, hx, e1, e2⟩ := h2 k' s' hq
        exact ⟨x, by simp [Array.mem_toList_iff.1 hx], e1, e2⟩
  · have hj : es[j]? = some e := by simpa using g2
    have hkey : ∀ e', es[j]? = some e' → ({ e' with key := .int .i64 k, val := s.val } : MapEntry).key = e'.key := fun e' he' => by rw [hj] at he'; cases he'; exact g3.symm
    refine ⟨_, by simp [Instr.mapUpdate, run_underlying hm, MapKept.run_getObj_map hb, run_checkKey hd (isKey_int _), run_findKey hd g1, hj, g3, run_keyThatStays (isKey_int _), MapKept.run_setObj_map _ hb, Result.andThen], ⟨_, _, (heap_set hb).1, stamped_modify hs j (fun e => { e with key := .int .i64 k, val := s.val }) (fun _ _ => rfl) (fun e' _ he' => hkey e' he'), ?_, ?_⟩, chg _, by simp⟩
    · intro x hx
      obtain ⟨i, hi⟩ := List.getElem?_of_mem hx
      rw [Array.getElem?_toList, Array.getElem?_modify] at hi
      split at hi
      · rename_i hji
        subst hji
        rw [hj] at hi
        simp at hi
        subst hi
        exact ⟨k, s, rfl, rfl, by simp⟩
      · rename_i hji
        obtain ⟨k', s', e1, e2, e3⟩ := h1 x (by rw [← Array.getElem?_toList] at hi; exact List.mem_of_getElem? hi)
        have hne : k' ≠ k := fun hq => by
          have hn := hs.2.2
          have a1 : (es.toList.map (·.key))[i]? = some (.int .i64 (k : Int)) := by rw [List.getElem?_map, Array.getElem?_toList, hi]; simp [e1, hq]
          have a2 : (es.toList.map (·.key))[j]? = some (.int .i64 (k : Int)) := by rw [List.getElem?_map, Array.getElem?_toList, hj]; simp [g3]
          have hil : i < (es.toList.map (·.key)).length := by
            by_cases hb : i < (es.toList.map (·.key)).length
            · exact hb
            · rw [List.getElem?_eq_none (by omega)] at a1; cases a1
          exact hji (((List.getElem?_inj hil hn).1 (a1.trans a2.symm)).symm)
        exact ⟨k', s', e1, e2, by simp [hne, e3]⟩
    · intro k' s' hq
      by_cases hkk : k' = k
      · subst hkk
        simp at hq; subst hq
        refine ⟨{ e with key := .int .i64 k', val := s.val }, ?_, rfl, rfl⟩
        apply List.mem_of_getElem? (i := j)
        rw [Array.getElem?_toList, Array.getElem?_modify, if_pos rfl, hj]; rfl
      · simp [hkk] at hq
        obtain ⟨x, hx, e1, e2⟩ := h2 k' s' hq
        obtain ⟨i, hi⟩ := List.getElem?_of_mem hx
        refine ⟨x, ?_, e1, e2⟩
        apply List.mem_of_getElem? (i := i)
        rw [Array.getElem?_toList, Array.getElem?_modify]
        rw [Array.getElem?_toList] at hi
        rw [if_neg (fun hji => by
          subst hji
          rw [hj] at hi
          obtain rfl := Option.some.inj hi
          rw [g3] at e1
          simp at e1
          omega)]
        exact hi

end Go.Proofs.Ytlheloogmgmjnaa

namespace Go.Proofs.Ytlheloogmgmjnaa
open Go.RowKit

structure Ver where
  txn : Nat
  st : Nat
  v : Int
  th : Bool
def Ver.row (x : Ver) : List Value := [.int .i64 x.txn, .int .i64 x.st, .int .i64 x.v, .bool x.th]
def verCells (l : List Ver) : List Value := l.flatMap Ver.row
def Ver.zero : Ver := ⟨0, 0, 0, false⟩

theorem verCells_length (l : List Ver) : (verCells l).length = l.length * 4 := by
  induction l with
  | nil => rfl
  | cons s l ih => simp [verCells, Ver.row] at *; omega
theorem verCells_cons (x : Ver) (l : List Ver) : verCells (x :: l) = .int .i64 x.txn :: .int .i64 x.st :: .int .i64 x.v :: .bool x.th :: verCells l := by simp [verCells, Ver.row]
theorem verCells_get (l : List Ver) : ∀ (i : Nat), i < l.length → (verCells l)[i * 4]? = some (.int .i64 (l.getD i Ver.zero).txn) ∧ (verCells l)[i * 4 + 1]? = some (.int .i64 (l.getD i Ver.zero).st) ∧ (verCells l)[i * 4 + 2]? = some (.int .i64 (l.getD i Ver.zero).v) ∧ (verCells l)[i * 4 + 3]? = some (.bool (l.getD i Ver.zero).th) := by
  induction l with
  | nil => intro i hi; simp at hi
  | cons s l ih =>
    intro i hi
    cases i with
    | zero => simp [verCells_cons]
    | succ i =>
      have := ih i (by simpa using hi)
      rw [verCells_cons, show (i + 1) * 4 = i * 4 + 1 + 1 + 1 + 1 by omega]
      simpa [List.getD] using this

/-- Where a key's versions lie. -/
structure VerAt (w : World) (s : Sl) (l : List Ver) : Prop where
  own : Own w 113 4 s (verCells l)
  n : s.n = l.length
theorem VerAt.chg {w w' : World} {D : Nat → Prop} {s : Sl} {l : List Ver} (h : VerAt w s l) (hc : Chg w w' D) (hd : ∀ k ∈ s.blk, ¬ D k) : VerAt w' s l := ⟨h.own.chg hc hd, h.n⟩
theorem VerAt.below {w w' : World} {s : Sl} {l : List Ver} (h : VerAt w s l) (hb : Below w.heap.size w w') : VerAt w' s l := h.chg (Chg.of_below hb (fun _ => False)) (fun _ _ => id)
theorem VerAt.nil (w : World) : VerAt w Sl.nil [] := ⟨Own.nil _ _ _, rfl⟩

/-- From the i-th on downwards: what a key has behind n, and whether it is known. -/
def behindV (l : List Ver) (n : Int) : Nat → Int × Bool × Bool
  | 0 => (0, false, true)
  | i + 1 => if n < ((l.getD i Ver.zero).txn : Int) then behindV l n i else if (l.getD i Ver.zero).st = 1 then behindV l n i else ((l.getD i Ver.zero).v, (l.getD i Ver.zero).th, (l.getD i Ver.zero).st == 2)

theorem Try.zero110 (w : World) : (zeroValue 110).run Try.prog w = .ok (.slice none 0 0) w := by kernel_rfl
theorem Try.underlying88' : Try.prog.underlying 88 = some (.map 3 110) := by kernel_rfl
theorem Try.underlying3' : Try.prog.underlying 3 = some (.int .i64) := by kernel_rfl

set_option maxHeartbeats 400000 in
theorem atOnce_any (n : Int) (w : World) : Calls Try.prog 55 #[.int .i64 n] w fun e w' => e = .returned (.tuple #[]) ∧ w' = w := by
  go_enter Try.func55, Try.ntmps55
  go_wp2
  go_end0
  exact ⟨rfl, rfl⟩

/-- By ascending numbers of transactions. -/
def VSorted (l : List Ver) : Prop := l.Pairwise fun a b => a.txn < b.txn
/-- How many versions, from the first on, are of transactions up to n. -/
def upToV : List Ver → Int → Nat
  | [], _ => 0
  | x :: l, n => if (x.txn : Int) ≤ n then upToV l n + 1 else 0
theorem upToV_le (n : Int) : ∀ l : List Ver, upToV l n ≤ l.length
  | [] => Nat.le_refl _
  | x :: l => by
    rw [upToV]
    split
    · have := upToV_le n l; simp; omega
    · simp
theorem upToV_lt (n : Int) : ∀ (l : List Ver) (i : Nat), i < upToV l n → ((l.getD i Ver.zero).txn : Int) ≤ n
  | [], i, h => by simp [upToV] at h
  | x :: l, i, h => by
    rw [upToV] at h
    split at h
    · rename_i hx
      cases i with
      | zero => simpa using hx
      | succ i => simpa [List.getD] using upToV_lt n l i (by omega)
    · omega
theorem upToV_at (n : Int) : ∀ (l : List Ver), upToV l n < l.length → n < ((l.getD (upToV l n) Ver.zero).txn : Int)
  | [], h => by simp at h
  | x :: l, h => by
    rw [upToV] at h ⊢
    split
    · rename_i hx
      rw [if_pos hx] at h
      simpa [List.getD] using upToV_at n l (by simpa using h)
    · rename_i hx
      simp
      omega
theorem upToV_is (n : Int) (l : List Ver) (j : Nat) (hj : j ≤ l.length) (h1 : ∀ i, i < j → ((l.getD i Ver.zero).txn : Int) ≤ n) (h2 : j < l.length → n < ((l.getD j Ver.zero).txn : Int)) : upToV l n = j := by
  rcases Nat.lt_trichotomy (upToV l n) j with h | h | h
  · have := upToV_at n l (by omega)
    have := h1 _ h
    omega
  · exact h
  · have a := upToV_lt n l j h
    have b := upToV_le n l
    have := h2 (by omega)
    omega
/-- Of sorted versions those behind n are not looked at. -/
theorem behindV_upTo (l : List Ver) (n : Int) (hs : VSorted l) : behindV l n l.length = behindV l n (upToV l n) := by
  have key : ∀ k, upToV l n + k ≤ l.length → behindV l n (upToV l n + k) = behindV l n (upToV l n) := by
    intro k
    induction k with
    | zero => intro _; rfl
    | succ k ih =>
      intro hk
      have h0 := upToV_at n l (by omega)
      have hgt : n < ((l.getD (upToV l n + k) Ver.zero).txn : Int) := by
        by_cases e : k = 0
        · subst e; exact h0
        · have := List.pairwise_iff_getElem.1 hs (upToV l n) (upToV l n + k) (by omega) (by omega) (by omega)
          simp only [List.getD, List.getElem?_eq_getElem (show upToV l n < l.length by omega), List.getElem?_eq_getElem (show upToV l n + k < l.length by omega), Option.getD_some] at h0 ⊢
          omega
      rw [show upToV l n + (k + 1) = (upToV l n + k) + 1 by omega, behindV, if_pos hgt]
      exact ih (by omega)
  have := key (l.length - upToV l n) (by have := upToV_le n l; omega)
  rwa [show upToV l n + (l.length - upToV l n) = l.length by have := upToV_le n l; omega] at this

set_option maxHeartbeats 2000000 in
set_option maxRecDepth 100000 in
theorem upTo_any (s : Sl) (n : Int) (l : List Ver) (w : World) (hv : VerAt w s l) (hl : l.length ≤ 1000) :
    Calls Try.prog 76 #[.slice s.a s.n s.c, .int .i64 n] w fun e w' => e = .returned (.int .i64 (upToV l n)) ∧ w' = w := by
  have hn := hv.n
  have hc : ∀ i, i < l.length → ∃ b, s.a = some ⟨b, 0, none⟩ ∧ w.cell? ⟨b, i * 4, none⟩ = some (.int .i64 (l.getD i Ver.zero).txn) := by
    intro i hi
    obtain ⟨c0, _⟩ := verCells_get l i hi
    exact hv.own.cell c0
  clear hv
  obtain ⟨sa, sn, sc⟩ := s
  simp only at hn hc ⊢
  subst hn
  go_enter Try.func76, Try.ntmps76
  go_wp2
  go_loop [5] (fun i => ∃ j : Nat, j ≤ l.length ∧ i = .int .i64 (j : Int) ∧ Hid (∀ i, i < j → ((l.getD i Ver.zero).txn : Int) ≤ n)) (fun i => l.length - (intOf i).toNat)
  case atStart => exact ⟨0, Nat.zero_le _, rfl, hide (by intro i hi; omega)⟩
  case round =>
    obtain ⟨j, hj, rfl, HB⟩ := hrel
    by_cases hjl : j < l.length
    · obtain ⟨b, hsa, c0⟩ := hc j hjl
      have hjl' : (j : Int) < (l.length : Int) := by omega
      have hwr : IntKind.i64.wrap ((j : Int) + 1) = ((j + 1 : Nat) : Int) := by rw [IntKind.wrap_i64]; omega
      by_cases h1 : ((l.getD j Ver.zero).txn : Int) ≤ n
      · have HB' := hide (show ∀ i, i < j + 1 → ((l.getD i Ver.zero).txn : Int) ≤ n from fun i hi => by
          by_cases e : i = j
          · rw [e]; exact h1
          · exact HB.out i (by omega))
        clear HB hc
        subst hsa
        generalize l.getD j Ver.zero = x at *
        go_wp2
        go_round
        case rel => exact ⟨j + 1, by omega, by go_num, HB'⟩
        case measure => simp [intOf]; omega
      · have HU := hide (upToV_is n l j hj HB.out (fun _ => by omega))
        clear HB hc
        subst hsa
        generalize l.getD j Ver.zero = x at *
        go_wp2
        go_ret
        exact ⟨by rw [HU.out]; rfl, rfl⟩
    · obtain rfl : j = l.length := by omega
      have HU := hide (upToV_is n l l.length hj HB.out (fun h => absurd h hjl))
      clear HB hc
      go_wp2
      go_ret
      exact ⟨by rw [HU.out]; rfl, rfl⟩

set_option maxHeartbeats 4000000 in
set_option maxRecDepth 100000 in
theorem vBehind_any (g : Nat) (f : Nat → Option Sl) (key : Nat) (n : Int) (l : List Ver) (w : World) (h : IMapAt w g f) (hv : VerAt w ((f key).getD Sl.nil) l) (hl : l.length ≤ 1000) (hs : VSorted l) :
    Calls Try.prog 73 #[.map (some g), .int .i64 key, .int .i64 n, .func (.func 55) #[] #[]] w fun e w' =>
      e = .returned (.tuple #[.agg #[.int .i64 (behindV l n l.length).1, .bool (behindV l n l.length).2.1], .bool (behindV l n l.length).2.2]) ∧ Below w.heap.size w w' := by
  rw [behindV_upTo l n hs]
  have LK := (h.below (below_alloc1 w (.cells #[.int .i64 0, .bool false] 69))).run_lookup 88 3 110 Try.underlying88' Try.underlying3' (Try.zero110 _) key
  have UP := hide (fun wx (hb : Below w.heap.size w wx) => upTo_any ((f key).getD Sl.nil) n l wx (hv.below hb) hl)
  generalize (f key).getD Sl.nil = s at *
  have hn := hv.n
  have hul := upToV_le n l
  have HT := hide (fun j (hj : j < upToV l n) => upToV_lt n l j hj)
  have hc : ∀ i, i < l.length → ∃ b, s.a = some ⟨b, 0, none⟩ ∧ b < w.heap.size ∧ w.cell? ⟨b, i * 4, none⟩ = some (.int .i64 (l.getD i Ver.zero).txn) ∧ w.cell? ⟨b, i * 4 + 1, none⟩ = some (.int .i64 (l.getD i Ver.zero).st) ∧ w.cell? ⟨b, i * 4 + 2, none⟩ = some (.int .i64 (l.getD i Ver.zero).v) ∧ w.cell? ⟨b, i * 4 + 3, none⟩ = some (.bool (l.getD i Ver.zero).th) := by
    intro i hi
    obtain ⟨c0, c1, c2, c3⟩ := verCells_get l i hi
    obtain ⟨b, hb, d0⟩ := hv.own.cell c0
    obtain ⟨b1, hb1, d1⟩ := hv.own.cell c1
    obtain ⟨b2, hb2, d2⟩ := hv.own.cell c2
    obtain ⟨b3, hb3, d3⟩ := hv.own.cell c3
    rw [hb] at hb1 hb2 hb3
    simp at hb1 hb2 hb3
    subst hb1 hb2 hb3
    exact ⟨b, hb, lt_of_cell d0, d0, d1, d2, d3⟩
  clear h hv
  obtain ⟨sa, sn, sc⟩ := s
  simp only [Sl.val] at LK hn hc UP
  subst hn
  generalize hU : upToV l n = U at *
  clear hU hs
  go_enter Try.func73, Try.ntmps73
  go_wp2_with (go_at_call 76; refine (UP.out _ (below_alloc1 _ _)).mono ?_; rintro e w' ⟨rfl, rfl⟩)
  clear LK UP
  go_loop [11, 12] (fun i _ => ∃ j : Nat, j ≤ U ∧ i = .int .i64 ((j : Int) - 1) ∧ Hid (behindV l n U = behindV l n j)) (fun i _ => (intOf i + 1).toNat)
  case atStart => exact ⟨U, Nat.le_refl _, by go_num, hide rfl⟩
  case round =>
    obtain ⟨j, hj, rfl, HB⟩ := hrel
    cases j with
    | zero =>
      replace HB := hide (show behindV l n U = (0, false, true) from HB.out)
      clear hc
      simp only [Int.natCast_zero, Int.zero_sub]
      go_wp2
      exact bodyPost_ret (v := .tuple #[.agg #[.int .i64 0, .bool false], .bool true]) (by simp [results, Try.results73, go_sem]) rfl ⟨by rw [HB.out], below_alloc1 _ _⟩
    | succ j =>
      rw [show (((j + 1 : Nat) : Int) - 1) = (j : Int) by omega]
      obtain ⟨b, hsa, hbl, c0, c1, c2, c3⟩ := hc j (by omega)
      have h1 : ¬ n < ((l.getD j Ver.zero).txn : Int) := by have := HT.out j (by omega); omega
      have HS := hide (show behindV l n U = if (l.getD j Ver.zero).st = 1 then behindV l n j else ((l.getD j Ver.zero).v, (l.getD j Ver.zero).th, (l.getD j Ver.zero).st == 2) by rw [HB.out, behindV, if_neg h1])
      clear HB hc h1
      generalize l.getD j Ver.zero = x at *
      obtain ⟨tx, st, vv, th⟩ := x
      simp only at c0 c1 c2 c3
      subst hsa
      have hjl : (j : Int) < (l.length : Int) := by omega
      have hne : ¬ b = w.heap.size := by omega
      by_cases h2 : st = 1
      · have d2 : ((st : Int) != 1) = false := by simp [h2]
        have HS' := hide (show behindV l n U = behindV l n j by rw [HS.out]; simp [h2])
        clear HS
        go_wp2_with (go_at_call 55; refine (atOnce_any _ _).mono ?_; rintro e w' ⟨rfl, rfl⟩)
        go_round
        case rel => exact ⟨j, by omega, by go_num, HS'⟩
        case measure => simp [intOf]
      · have d2 : ((st : Int) != 1) = true := by simp; omega
        have e2 : (st == 2) = ((st : Int) == 2) := by
          by_cases h : st = 2
          · subst h; rfl
          · have h' : ¬ (st : Int) = 2 := by omega
            rw [beq_eq_false_iff_ne.2 h, beq_eq_false_iff_ne.2 h']
        have HS' := hide (show behindV l n U = (vv, th, ((st : Int) == 2)) by rw [HS.out]; simp only [h2, if_false, e2])
        clear HS e2
        generalize hq : ((st : Int) == 2) = q at *
        go_wp2_with (go_at_call 55; refine (atOnce_any _ _).mono ?_; rintro e w' ⟨rfl, rfl⟩)
        go_region
        go_wp2
        exact bodyPost_ret (v := .tuple #[.agg #[.int .i64 vv, .bool th], .bool q]) (by simp [results, Try.results73, go_sem]) rfl ⟨by rw [HS'.out], (below_alloc1 _ _).drew⟩

end Go.Proofs.Ytlheloogmgmjnaa

namespace Go.Proofs.Ytlheloogmgmjnaa
open Go.RowKit Go.MapKept

def KT {α : Type} (x : Sem α) : Prop := ∀ P w v w', x.run P w = .ok v w' → w'.tape = w.tape
theorem KT.bind {α β : Type} {x : Sem α} {f : α → Sem β} (hx : KT x) (hf : ∀ a, KT (f a)) : KT (x >>= f) := by
  intro P w v w' h
  rw [Sem.run_bind] at h
  cases hq : x.run P w with
  | ok a w1 =>
    rw [hq] at h
    exact (hf a P w1 v w' h).trans (hx P w a w1 hq)
  | halt a w1 => rw [hq] at h; cases h
theorem kt_pure {α : Type} (a : α) : KT (pure a : Sem α) := by
  intro P w v w' h
  simp at h
  rw [h.2]
theorem kt_getObj (r : Nat) : KT (getObj r) := by
  intro P w v w' h
  simp only [getObj, Sem.run] at h
  split at h
  · cases h
  · simp only [Result.ok.injEq] at h; rw [h.2]
  · cases h
theorem kt_setObj (r : Nat) (o : Obj) : KT (setObj r o) := by
  intro P w v w' h
  simp only [setObj, Sem.run] at h
  split at h
  · cases h
  · simp only [Result.ok.injEq] at h; rw [← h.2]
  · cases h
theorem kt_choose (q : Question) : KT (choose q) := by
  intro P w v w' h
  simp only [choose, Sem.run] at h
  split at h
  · simp only [Result.ok.injEq] at h; rw [h.2]
  · simp only [Result.ok.injEq] at h; rw [← h.2]
theorem kt_stuck {α : Type} (s : String) : KT (stuck s : Sem α) := by
  intro P w v w' h
  simp [stuck] at h
theorem kt_unsupported {α : Type} (s : Unsupported) : KT (unsupported s : Sem α) := by
  intro P w v w' h
  simp [unsupported] at h
theorem kt_next (r : Nat) (ty : TypeId) : KT (Instr.next (.pointer (some ⟨r, 0, none⟩)) false ty) := by
  unfold Instr.next
  repeat (first
    | exact kt_pure _
    | exact kt_getObj _
    | exact kt_setObj _ _
    | exact kt_choose _
    | exact kt_stuck _
    | exact kt_unsupported _
    | (refine KT.bind ?_ (fun _ => ?_))
    | split)

def lenOf : Value → Nat | .slice _ n _ => n | _ => 0
def knOf : Value → Nat | .int _ n => n.toNat | _ => 0
def sumTo (h : Nat → Nat) : Nat → Nat
  | 0 => 0
  | n + 1 => sumTo h n + h n
def liveOf (f : Nat → Option Sl) : Nat := sumTo (fun k => ((f k).getD Sl.nil).n) 24

theorem sumTo_congr {h h' : Nat → Nat} : ∀ n, (∀ k, k < n → h k = h' k) → sumTo h n = sumTo h' n
  | 0, _ => rfl
  | n + 1, e => by rw [sumTo, sumTo, sumTo_congr n (fun k hk => e k (by omega)), e n (by omega)]
theorem sumTo_upd (h : Nat → Nat) (k0 c : Nat) (h0 : h k0 = 0) : ∀ n, sumTo (fun k => if k0 = k then c else h k) n = (if k0 < n then c else 0) + sumTo h n
  | 0 => by simp [sumTo]
  | n + 1 => by
    rw [sumTo, sumTo, sumTo_upd h k0 c h0 n]
    by_cases e : k0 = n
    · subst e; simp [h0]; omega
    · rw [if_neg e]
      by_cases e2 : k0 < n
      · rw [if_pos e2, if_pos (by omega)]; omega
      · rw [if_neg e2, if_neg (by omega)]; omega

def entLen : List MapEntry → Nat → Nat
  | [], _ => 0
  | e :: l, k => if knOf e.key = k then lenOf e.val else entLen l k
def seenLen : List MapEntry → Array Nat → Nat
  | [], _ => 0
  | x :: l, seen => (if seen.contains x.born then lenOf x.val else 0) + seenLen l seen

theorem entLen_not (k : Nat) : ∀ l : List MapEntry, (∀ e ∈ l, knOf e.key ≠ k) → entLen l k = 0
  | [], _ => rfl
  | e :: l, h => by rw [entLen, if_neg (h e (by simp)), entLen_not k l (fun x hx => h x (by simp [hx]))]
theorem sumTo_ent : ∀ l : List MapEntry, (l.map fun e => knOf e.key).Nodup → (∀ e ∈ l, knOf e.key < 24) → sumTo (entLen l) 24 = (l.map fun e => lenOf e.val).sum
  | [], _, _ => by
    have : ∀ n, sumTo (entLen []) n = 0 := fun n => by
      induction n with
      | zero => rfl
      | succ n ih => rw [sumTo, ih]; rfl
    rw [this]; rfl
  | e :: l, hn, hb => by
    have hn' := List.nodup_cons.1 hn
    have h0 : entLen l (knOf e.key) = 0 := entLen_not _ l (fun x hx q => hn'.1 (by show knOf e.key ∈ _; rw [← q]; exact List.mem_map.2 ⟨x, hx, rfl⟩))
    have : entLen (e :: l) = fun k => if knOf e.key = k then lenOf e.val else entLen l k := by funext k; rfl
    rw [this, sumTo_upd _ _ _ h0, if_pos (hb e (by simp)), sumTo_ent l hn'.2 (fun x hx => hb x (by simp [hx]))]
    simp

theorem seenLen_none : ∀ (es : List MapEntry), seenLen es #[] = 0
  | [] => rfl
  | x :: l => by
    have : (#[] : Array Nat).contains x.born = false := by simp
    simp only [seenLen, this, Bool.false_eq_true, if_false, seenLen_none l]
theorem seenLen_full (seen : Array Nat) : ∀ (es : List MapEntry), (∀ x ∈ es, seen.contains x.born = true) → seenLen es seen = (es.map fun e => lenOf e.val).sum
  | [], _ => rfl
  | x :: l, h => by
    rw [seenLen, h x (by simp), seenLen_full seen l (fun y hy => h y (by simp [hy]))]
    simp
theorem seenLen_other (seen : Array Nat) (b : Nat) : ∀ (es : List MapEntry), b ∉ es.map (·.born) → seenLen es (seen.push b) = seenLen es seen
  | [], _ => rfl
  | x :: l, h => by
    have hx : ¬ x.born = b := fun q => h (by rw [← q]; simp)
    have ih := seenLen_other seen b l (fun e => h (by simp at e ⊢; exact Or.inr e))
    simp only [seenLen, ih, contains_push]
    simp [hx]
theorem seenLen_push (seen : Array Nat) (e : MapEntry) (hs : seen.contains e.born = false) : ∀ (es : List MapEntry), (es.map (·.born)).Nodup → e ∈ es → seenLen es (seen.push e.born) = seenLen es seen + lenOf e.val
  | x :: l, hn, he => by
    have hn' := List.nodup_cons.1 hn
    rcases List.mem_cons.1 he with rfl | h
    · rw [seenLen, seenLen, seenLen_other seen e.born l hn'.1, contains_push, hs]
      simp; omega
    · have hx : ¬ x.born = e.born := fun q => hn'.1 (by show x.born ∈ _; rw [q]; exact List.mem_map.2 ⟨e, h, rfl⟩)
      rw [seenLen, seenLen, seenLen_push seen e hs l hn'.2 h, contains_push]
      simp [hx]; omega
theorem sum_le_all (seen : Array Nat) : ∀ (es : List MapEntry), seenLen es seen ≤ (es.map fun e => lenOf e.val).sum
  | [] => Nat.le_refl _
  | x :: l => by
    have := sum_le_all seen l
    rw [seenLen]
    simp only [List.map_cons, List.sum_cons]
    split <;> omega

set_option maxHeartbeats 2000000 in
set_option maxRecDepth 100000 in
theorem mLive_any (g : Nat) (f : Nat → Option Sl) (w : World) (h : IMapAt w g f) (hk : ∀ k s, f k = some s → k < 24) (hb1000 : liveOf f ≤ 100000) :
    Calls Try.prog 59 #[.map (some g)] w fun e w' => e = .returned (.int .i64 (liveOf f)) ∧ Below w.heap.size w w' := by
  obtain ⟨es, clock, hb, hst, h1, h2⟩ := h.ex
  have hkn : ∀ e ∈ es.toList, ∃ (k : Nat) (s : Sl), e.key = .int .i64 k ∧ e.val = s.val ∧ f k = some s := h1
  have hnod : (es.toList.map fun e => knOf e.key).Nodup := by
    refine List.pairwise_map.2 ((List.pairwise_map.1 hst.2.2).imp_of_mem ?_)
    intro x y hx hy hne hab
    obtain ⟨k, s, e1, _⟩ := h1 x hx
    obtain ⟨k', s', e1', _⟩ := h1 y hy
    rw [e1, e1'] at hab hne
    simp [knOf] at hab
    exact hne (by rw [hab])
  have htot : (es.toList.map fun e => lenOf e.val).sum = liveOf f := by
    rw [← sumTo_ent es.toList hnod (fun e he => by obtain ⟨k, s, e1, _, e3⟩ := h1 e he; rw [e1]; simpa [knOf] using hk k s e3)]
    refine sumTo_congr 24 (fun k _ => ?_)
    have key : ∀ l : List MapEntry, (∀ e ∈ l, e ∈ es.toList) → (∀ s, f k = some s → ∃ e ∈ l, e.key = .int .i64 (k : Nat)) → entLen l k = ((f k).getD Sl.nil).n := by
      intro l
      induction l with
      | nil =>
        intro _ hh
        cases hq : f k with
        | none => rfl
        | some s => obtain ⟨e, he, _⟩ := hh s hq; simp at he
      | cons e l ih =>
        intro hsub hh
        obtain ⟨k', s', e1, e2, e3⟩ := h1 e (hsub e (by simp))
        rw [entLen, e1]
        by_cases hkk : k' = k
        · subst hkk
          simp [knOf, e2, e3, Sl.val, lenOf]
        · have : knOf (.int .i64 (k' : Int)) ≠ k := by simpa [knOf] using hkk
          rw [if_neg this]
          refine ih (fun x hx => hsub x (by simp [hx])) (fun s hs => ?_)
          obtain ⟨x, hx, hx2⟩ := hh s hs
          rcases List.mem_cons.1 hx with rfl | hx
          · rw [e1] at hx2; simp at hx2; omega
          · exact ⟨x, hx, hx2⟩
    exact key es.toList (fun _ h => h) (fun s hs => by obtain ⟨e, he, h3, _⟩ := h2 k s hs; exact ⟨e, he, h3⟩)
  have hrg := run_range_map (P := Try.prog) w 88 3 110 g es clock Try.underlying88' hb
  have HT := hide htot
  generalize liveOf f = T at *
  clear h h2 htot hnod hk
  go_enter Try.func59, Try.ntmps59
  go_wp2
  go_loopw [3, 5] (fun s _ w' => ∃ (w1 : World) (seen : Array Nat), w1.Alike w ∧ w1.tape = w.tape ∧ w' = w1.alloc (.mapIter (some g) clock seen clock) ∧ s = .int .i64 (seenLen es.toList seen)) (fun _ _ w' => (leftOf es (w'.iterSeen w.heap.size)).size)
  case atStart => exact ⟨w, #[], ⟨rfl, rfl, rfl⟩, rfl, rfl, by rw [seenLen_none]; rfl⟩
  case round =>
    obtain ⟨w1, seen, hal, htp, rfl, rfl⟩ := hrel
    have hsz : w1.heap.size = w.heap.size := by rw [hal.1]
    have hb1 : w1.heap[g]? = some (.map es clock) := by rw [hal.1]; exact hb
    have law := run_next_map (P := Try.prog) w1 0 g clock clock seen es clock hb1 hst.1 (Nat.le_refl _)
    rw [hsz] at law
    rcases law with ⟨h0, hrun⟩ | ⟨e, he, w2, hal2, hrun⟩
    · have hnx : ∀ ty, (Instr.next (.pointer (some ⟨w.heap.size, 0, none⟩)) false ty).run Try.prog (w1.alloc (.mapIter (some g) clock seen clock)) = _ := fun _ => hrun
      have HF := hide (seenLen_full seen es.toList (fun x hx => by
        cases hc : seen.contains x.born with
        | true => rfl
        | false =>
          have : x ∈ leftOf es seen := by unfold leftOf; rw [Array.mem_filter]; exact ⟨Array.mem_toList_iff.1 hx, by rw [hc]; rfl⟩
          rw [Array.eq_empty_of_size_eq_zero h0] at this
          simp at this))
      clear hrun
      go_wp2
      go_ret
      exact ⟨ret_int (by rw [HF.out, HT.out]), hal.2.1, htp, hal.2.2, by simp [hal.1], fun k hkk => by
        have : k < w1.heap.size := by omega
        rw [heap_alloc_old w1 _ this, hal.1]⟩
    · obtain ⟨k, s, e1, e2, e3⟩ := hkn e (mem_left he).1
      simp only [Sl.val] at e2
      rw [e2] at hrun
      have htp2 : w2.tape = w1.tape := by
        have := kt_next w.heap.size 0 _ _ _ _ hrun
        simpa using this
      have hnx : ∀ ty, (Instr.next (.pointer (some ⟨w.heap.size, 0, none⟩)) false ty).run Try.prog (w1.alloc (.mapIter (some g) clock seen clock)) = _ := fun _ => hrun
      have hsz2 : w2.heap.size = w.heap.size := by rw [hal2.1, hal.1]
      have hb2 : w2.heap[g]? = some (.map es clock) := by rw [hal2.1]; exact hb1
      have hen := run_entry_map (P := Try.prog) w2 g clock seen es clock e hb2 (mem_left he).1 hst.2.1
      rw [hsz2, e2] at hen
      have hle := sum_le_all (seen.push e.born) es.toList
      have hpush := seenLen_push seen e (mem_left he).2 es.toList hst.2.1 (mem_left he).1
      have hlen : lenOf e.val = s.n := by rw [e2]; rfl
      rw [hlen] at hpush
      rw [HT.out, hpush] at hle
      have HP := hide hpush
      have hwr : IntKind.i64.wrap (((seenLen es.toList seen : Nat) : Int) + (s.n : Int)) = ((seenLen es.toList seen + s.n : Nat) : Int) := by rw [IntKind.wrap_i64]; omega
      clear hpush hrun
      go_wp2
      go_roundw
      case rel => exact ⟨w2, seen.push e.born, ⟨hal2.1.trans hal.1, hal2.2.1.trans hal.2.1, hal2.2.2.trans hal.2.2⟩, htp2.trans htp, rfl, by rw [HP.out]; simp⟩
      case measure =>
        rw [← hsz2, World.iterSeen_alloc, hsz2, ← hsz, World.iterSeen_alloc]
        exact left_shrinks es seen e he

end Go.Proofs.Ytlheloogmgmjnaa
