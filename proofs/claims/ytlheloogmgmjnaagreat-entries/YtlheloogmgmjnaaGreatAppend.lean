import Derived.Test.YtlheloogmgmjnaaGreatRefMem
import Derived.Laws.AppendOwnNone
import Derived.Maps.AppendAt
import Derived.RegionTactic
namespace Go.Proofs.YtlheloogmgmjnaaGreat
open Go.RowKit

theorem Own.below {w w' : World} {e : TypeId} {sz : Nat} {s : Sl} {xs : List Value} (h : Own w e sz s xs) (hb : Below w.heap.size w w') : Own w' e sz s xs := h.chg (Chg.of_below hb (fun _ => False)) (fun _ _ => id)

theorem ownsRow_sl {w : World} {base : Nat} {e : TypeId} {sz : Nat} {v : Value} {n : Nat} {xs : List Value} (h : w.ownsRow base e sz v n xs) : ∃ s : Sl, v = .slice s.a s.n s.c ∧ s.n = n ∧ v.ownBlock.toList = s.blk := by
  obtain ⟨_, ⟨rfl, hn⟩ | ⟨g, cap, cur, rfl, _⟩⟩ := h
  · exact ⟨⟨none, 0, 0⟩, rfl, hn.symm, rfl⟩
  · exact ⟨⟨some ⟨g, 0, none⟩, n, cap⟩, rfl, rfl, rfl⟩

/-- 'append(s, x...)': s owned; x whatever. -/
theorem run_append_sl {P : Program} (w : World) (t ty e : TypeId) (i : TypeInfo) (z : Value) (size bytes : Nat) (ht : P.underlying t = some (.slice e)) (hi : P.info? e = some i) (hz : i.zero = some z)
    (hsize : i.size = size) (hby : i.bytes = bytes) (hzs : z.cells.size = size) (hsz : 0 < size)
    (s : Sl) (xs : List Value) (hown : Own w e size s xs) (ao : Option Addr) (m c : Nat) (news : List Value) (hl : news.length = m * size) (hnil : ao = none → m = 0 ∧ c = 0)
    (hpos : ∀ ad, ao = some ad → ∀ j u, news[j]? = some u → w.cell? (ad.add j) = some u) (h1 : ∀ u ∈ news, u.oneCell' = true) (h63 : s.n + m ≤ maxLen) (hbytes : (s.n + m) * bytes ≤ 140737488355328) :
    ∃ (s' : Sl) (w' : World), (Builtin.append_ #[t, t] ty #[.slice s.a s.n s.c, .slice ao m c]).run P w = .ok (.slice s'.a s'.n s'.c) w' ∧ Own w' e size s' (xs ++ news) ∧ s'.n = s.n + m ∧ Chg w w' (fun k => k ∈ s.blk) ∧ (∀ k ∈ s'.blk, k ∈ s.blk ∨ k = w.heap.size) := by
  cases ao with
  | none =>
    obtain ⟨rfl, rfl⟩ := hnil rfl
    obtain rfl : news = [] := List.eq_nil_of_length_eq_zero (by simpa using hl)
    have hrun := run_append_owned_none (P := P) (w := w) 0 t ty e i size ht hi (.slice s.a s.n s.c) s.n xs hown
    exact ⟨s, w, hrun, by simpa using hown, rfl, Chg.refl _ _, fun k hk => Or.inl hk⟩
  | some ad =>
    obtain ⟨v', w', hr, h2, h3, _, h5⟩ := run_append_own_at (P := P) w 0 t ty e i z size bytes ht hi hz hsize hby hzs hsz (.slice s.a s.n s.c) s.n xs hown ad m c news hl (hpos ad rfl) h1 h63 hbytes (Nat.zero_le _)
    obtain ⟨s', hv, hn, hblk⟩ := ownsRow_sl h2
    have hsb : (Value.slice s.a s.n s.c).ownBlock.toList = s.blk := by
      rcases s with ⟨a, n, c⟩; cases a <;> rfl
    subst hv
    refine ⟨s', w', hr, ?_, hn, ?_, ?_⟩
    · unfold Own; rw [← hn] at h2; exact h2
    · refine (Chg.grown h3).mono (fun k _ hk => ?_)
      rw [← hsb, ← hk]; simp
    · intro k hk
      rw [← hblk] at hk
      rcases h5 with h5 | h5
      · left; rw [← hsb, ← h5]; exact hk
      · right; rw [h5] at hk; simpa using hk

theorem wp_append_sl {P : Program} {w : World} {o : Oper} {a : Act} {K : Act → World → Prop} {Q : Exit → Act → World → Prop} (sO x : Operand) (t : TypeId)
    (ho : o.op = .call { callee := .builtin .append, args := #[sO, x], argTypes := #[t, t] })
    (e : TypeId) (i : TypeInfo) (z : Value) (size bytes : Nat) (ht : P.underlying t = some (.slice e)) (hi : P.info? e = some i) (hz : i.zero = some z)
    (hsize : i.size = size) (hby : i.bytes = bytes) (hzs : z.cells.size = size) (hsz : 0 < size)
    (s : Sl) (xs : List Value) (hs : a.eval sO = .slice s.a s.n s.c) (hown : Own w e size s xs) (ao : Option Addr) (m c : Nat) (news : List Value) (hx : a.eval x = .slice ao m c) (hl : news.length = m * size) (hnil : ao = none → m = 0 ∧ c = 0)
    (hpos : ∀ ad, ao = some ad → ∀ j u, news[j]? = some u → w.cell? (ad.add j) = some u) (h1 : ∀ u ∈ news, u.oneCell' = true) (h63 : s.n + m ≤ maxLen) (hbytes : (s.n + m) * bytes ≤ 140737488355328)
    (h : ∀ (s' : Sl) (w' : World), Own w' e size s' (xs ++ news) → s'.n = s.n + m → Chg w w' (fun k => k ∈ s.blk) → (∀ k ∈ s'.blk, k ∈ s.blk ∨ k = w.heap.size) → K (a.put o.dst (.slice s'.a s'.n s'.c)) w') : o.wp P a w K Q := by
  obtain ⟨s', w', hr, h2, h3, h4, h5⟩ := run_append_sl (P := P) w t o.type e i z size bytes ht hi hz hsize hby hzs hsz s xs hown ao m c news hl hnil hpos h1 h63 hbytes
  unfold Oper.wp execOp
  simp only [ho, resolve, invoke, builtin, Sem.run_bind, Sem.run_pure, Result.andThen_ok, List.map_toArray, List.map_cons, List.map_nil, hs, hx, hr]
  exact h s' w' h2 h3 h4 h5

theorem wpList_append_sl {P : Program} {w : World} {ops : Array Oper} {rest : List Oper} {o : Oper} {a : Act} {Q : Exit → Act → World → Prop} (hgd : o.guard = none) (sO x : Operand) (t : TypeId)
    (ho : o.op = .call { callee := .builtin .append, args := #[sO, x], argTypes := #[t, t] })
    (e : TypeId) (i : TypeInfo) (z : Value) (size bytes : Nat) (ht : P.underlying t = some (.slice e)) (hi : P.info? e = some i) (hz : i.zero = some z)
    (hsize : i.size = size) (hby : i.bytes = bytes) (hzs : z.cells.size = size) (hsz : 0 < size)
    (s : Sl) (xs : List Value) (hs : a.eval sO = .slice s.a s.n s.c) (hown : Own w e size s xs) (ao : Option Addr) (m c : Nat) (news : List Value) (hx : a.eval x = .slice ao m c) (hl : news.length = m * size) (hnil : ao = none → m = 0 ∧ c = 0)
    (hpos : ∀ ad, ao = some ad → ∀ j u, news[j]? = some u → w.cell? (ad.add j) = some u) (h1 : ∀ u ∈ news, u.oneCell' = true) (h63 : s.n + m ≤ maxLen) (hbytes : (s.n + m) * bytes ≤ 140737488355328)
    (h : ∀ (s' : Sl) (w' : World), Own w' e size s' (xs ++ news) → s'.n = s.n + m → Chg w w' (fun k => k ∈ s.blk) → (∀ k ∈ s'.blk, k ∈ s.blk ∨ k = w.heap.size) → wpList P ops Q rest (a.put o.dst (.slice s'.a s'.n s'.c)) w') : wpList P ops Q (o :: rest) a w :=
  wpList_plain hgd fun _ hK => wp_append_sl sO x t ho e i z size bytes ht hi hz hsize hby hzs hsz s xs hs hown ao m c news hx hl hnil hpos h1 h63 hbytes fun s' w' h2 h3 h4 h5 => hK _ _ (h s' w' h2 h3 h4 h5)

theorem step_append_sl {P : Program} {w : World} {ops : Array Oper} {o : Oper} {a : Act} {K : Act → World → Prop} {Q : Exit → Act → World → Prop} {E : Prop} (hgd : o.guard = none) (sO x : Operand) (t : TypeId)
    (ho : o.op = .call { callee := .builtin .append, args := #[sO, x], argTypes := #[t, t] })
    (e : TypeId) (i : TypeInfo) (z : Value) (size bytes : Nat) (ht : P.underlying t = some (.slice e)) (hi : P.info? e = some i) (hz : i.zero = some z)
    (hsize : i.size = size) (hby : i.bytes = bytes) (hzs : z.cells.size = size) (hsz : 0 < size)
    (s : Sl) (xs : List Value) (hs : a.eval sO = .slice s.a s.n s.c) (hown : Own w e size s xs) (ao : Option Addr) (m c : Nat) (news : List Value) (hx : a.eval x = .slice ao m c) (hl : news.length = m * size) (hnil : ao = none → m = 0 ∧ c = 0)
    (hpos : ∀ ad, ao = some ad → ∀ j u, news[j]? = some u → w.cell? (ad.add j) = some u) (h1 : ∀ u ∈ news, u.oneCell' = true) (h63 : s.n + m ≤ maxLen) (hbytes : (s.n + m) * bytes ≤ 140737488355328)
    (h : ∀ (s' : Sl) (w' : World), Own w' e size s' (xs ++ news) → s'.n = s.n + m → Chg w w' (fun k => k ∈ s.blk) → (∀ k ∈ s'.blk, k ∈ s.blk ∨ k = w.heap.size) → K (a.put o.dst (.slice s'.a s'.n s'.c)) w') :
    if Region.wanted o (yielded ops a.tmps) = true then Oper.wp P o a w K Q else E := by
  have hw : Region.wanted o (yielded ops a.tmps) = true := by simp [Region.wanted, hgd]
  rw [if_pos hw]
  exact wp_append_sl sO x t ho e i z size bytes ht hi hz hsize hby hzs hsz s xs hs hown ao m c news hx hl hnil hpos h1 h63 hbytes h

end Go.Proofs.YtlheloogmgmjnaaGreat
