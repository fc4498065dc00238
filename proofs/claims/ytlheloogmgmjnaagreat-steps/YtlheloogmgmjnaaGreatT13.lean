import Derived.Test.YtlheloogmgmjnaaGreatT01
import Derived.Test.YtlheloogmgmjnaaGreatT08
import Derived.ProofKit
import Derived.SizedLaws
import Derived.Deep.Slices
import Derived.Deep.Strs
import Derived.Lib.SmallJoins
namespace Go.Proofs.YtlheloogmgmjnaaGreat
open Go.ChangeShapes Go.WideShapes Go.ChangeAt Go.RowKit

theorem Tryz.own : ownKnob Tryz.prog.godebug = none := by kernel_rfl
theorem Tryz.laidOut : laidOutB Tryz.prog = true := by kernel_rfl
theorem Tryz.cells3 : Tryz.prog.cellsOf 3 = 1 := by kernel_rfl
theorem Tryz.bytes3 : Tryz.prog.bytesOf 3 = 8 := by kernel_rfl
theorem Tryz.cells114 : Tryz.prog.cellsOf 114 = 4 := by kernel_rfl
theorem Tryz.bytes114 : Tryz.prog.bytesOf 114 = 32 := by kernel_rfl
theorem Tryz.cells30 : Tryz.prog.cellsOf 30 = 1 := by kernel_rfl
theorem Tryz.cells31 : Tryz.prog.cellsOf 31 = 1 := by kernel_rfl
theorem Tryz.cells33 : Tryz.prog.cellsOf 33 = 3 := by kernel_rfl

section
variable {H : Type} {enc : TypeId × Value → H} {w : World} {base : Nat} {spare : Nat → Bool} {held : Bool}

/-- A '[]int' that is read. -/
theorem open_ints_at {fuel : Nat} {cs : List Value} {x : DataW H × List MemPlace} (h : DataW.trod enc Tryz.prog w base spare held fuel 30 cs = some x) (hz : ∀ z ∈ DataW.weights Tryz.prog 30 x.1, z ≤ reachBytes) :
    ∃ (a : Option Addr) (n c : Nat) (xs : List Int), cs = [.slice a n c] ∧ n = xs.length ∧ n ≤ c ∧ n * 8 ≤ 140737488351232 ∧ IntsAt w a xs ∧ (∀ y ∈ xs, (Lit.int .i64 y).wf = true) ∧ (a = none → n = 0 ∧ c = 0) := by
  rcases Deep.open_slice1 Tryz.underlying30 Tryz.cells3 h with ⟨rfl, rfl⟩ | ⟨a, len, cap, m, n, V, D, Pl, rfl, hb, hl, hm, hmm, rfl, hx⟩
  · exact ⟨none, 0, 0, [], rfl, rfl, Nat.le_refl _, by omega, Or.inl rfl, by simp, fun _ => ⟨rfl, rfl⟩⟩
  · have hml : len ≤ m := by rw [hmm]; split <;> omega
    have hall : ∀ i, i < len → ∃ k, w.cell? (a.add i) = some (.int .i64 k) ∧ (Lit.int .i64 k).wf = true := by
      intro i hi
      obtain ⟨h1, h2⟩ := hx i (by omega)
      obtain ⟨k, hk, _, hwf⟩ := DataW.trod_int Tryz.underlying3 h2
      simp only [List.cons.injEq, and_true] at hk
      exact ⟨k, by rw [h1, hk], hwf⟩
    obtain ⟨F, hF⟩ := Deep.choose_lt hall
    have hb8 : len * 8 ≤ reachBytes := by
      have := hz ((len + (m - len)) * 8) (by simp [DataW.weights, Tryz.underlying30, Tryz.bytes3])
      omega
    refine ⟨some a, len, cap, (List.range len).map F, rfl, by simp, hl, by simpa [reachBytes] using hb8, ?_, ?_, fun h => by cases h⟩
    · by_cases h0 : len = 0
      · exact Or.inl (by simp [h0])
      · obtain ⟨b, off, spot⟩ := a
        have hspot : spot = none := by simpa [Addr.add] using World.cell?_spot (hF 0 (by omega)).1
        subst hspot
        refine Or.inr ⟨b, off, rfl, fun i hi => ?_⟩
        simp at hi
        rw [← addr_add, (hF i hi).1]
        simp [List.getD, hi]
    · intro y hy
      simp at hy
      obtain ⟨i, hi, rfl⟩ := hy
      exact (hF i hi).2

/-- A '[]api.Instr' that is read. -/
theorem open_instrs_at {fuel : Nat} {cs : List Value} {x : DataW H × List MemPlace} (h : DataW.trod enc Tryz.prog w base spare held fuel 31 cs = some x) (hz : ∀ z ∈ DataW.weights Tryz.prog 31 x.1, z ≤ reachBytes) :
    ∃ (a : Option Addr) (n c : Nat) (xs : List Ins), cs = [.slice a n c] ∧ n = xs.length ∧ n ≤ c ∧ n * 32 ≤ 140737488351232 ∧ InsAt w a xs ∧ (∀ y ∈ xs, (Lit.int .i64 y.op).wf = true ∧ (Lit.int .i64 y.a).wf = true ∧ (Lit.int .i64 y.b).wf = true ∧ (Lit.int .i64 y.c).wf = true) ∧ (a = none → n = 0 ∧ c = 0) := by
  rcases Deep.open_slice Tryz.underlying31 h with ⟨rfl, rfl⟩ | ⟨a, len, cap, m, n, D, Pl, rfl, hb, hl, hm, hmm, rfl, hx⟩
  · exact ⟨none, 0, 0, [], rfl, rfl, Nat.le_refl _, by omega, Or.inl rfl, by simp, fun _ => ⟨rfl, rfl⟩⟩
  · rw [Tryz.cells114] at hx
    have hml : len ≤ m := by rw [hmm]; split <;> omega
    have hall : ∀ i, i < len → ∃ k : Ins, (w.cell? ((a.add (i * 4)).add 0) = some (.int .i64 k.op) ∧ w.cell? ((a.add (i * 4)).add 1) = some (.int .i64 k.a) ∧ w.cell? ((a.add (i * 4)).add 2) = some (.int .i64 k.b) ∧ w.cell? ((a.add (i * 4)).add 3) = some (.int .i64 k.c)) ∧
        ((Lit.int .i64 k.op).wf = true ∧ (Lit.int .i64 k.a).wf = true ∧ (Lit.int .i64 k.b).wf = true ∧ (Lit.int .i64 k.c).wf = true) := by
      intro i hi
      obtain ⟨cs', h1, h2⟩ := hx i (by omega)
      obtain ⟨_, hlen, hc⟩ := World.cells?_some h1
      match cs', hlen with
      | [v0, v1, v2, v3], _ =>
        obtain ⟨y0, y1, y2, y3, n', _, _, t0, t1, t2, t3⟩ := Joins.trod_struct4 Tryz.underlying114 h2
        simp only [Tryz.cells3, List.drop_zero, List.take_succ_cons, List.take_zero, List.drop_succ_cons] at t0 t1 t2 t3
        obtain ⟨k0, e0, _, f0⟩ := DataW.trod_int Tryz.underlying3 t0
        obtain ⟨k1, e1, _, f1⟩ := DataW.trod_int Tryz.underlying3 t1
        obtain ⟨k2, e2, _, f2⟩ := DataW.trod_int Tryz.underlying3 t2
        obtain ⟨k3, e3, _, f3⟩ := DataW.trod_int Tryz.underlying3 t3
        simp only [List.cons.injEq, and_true] at e0 e1 e2 e3
        subst e0 e1 e2 e3
        exact ⟨⟨k0, k1, k2, k3⟩, ⟨hc 0 (by omega), hc 1 (by omega), hc 2 (by omega), hc 3 (by omega)⟩, f0, f1, f2, f3⟩
    have : Inhabited Ins := ⟨Ins.zero⟩
    obtain ⟨F, hF⟩ := Deep.choose_lt hall
    have hb8 : len * 32 ≤ reachBytes := by
      have := hz ((len + (m - len)) * 32) (by simp [DataW.weights, Tryz.underlying31, Tryz.bytes114])
      omega
    refine ⟨some a, len, cap, (List.range len).map F, rfl, by simp, hl, by simpa [reachBytes] using hb8, ?_, ?_, fun h => by cases h⟩
    · by_cases h0 : len = 0
      · exact Or.inl (by simp [h0])
      · obtain ⟨b, off, spot⟩ := a
        have hspot : spot = none := by simpa [Addr.add] using World.cell?_spot (hF 0 (by omega)).1.1
        subst hspot
        refine Or.inr ⟨b, off, rfl, fun i hi => ?_⟩
        simp at hi
        have e : ((List.range len).map F).getD i Ins.zero = F i := by simp [List.getD, hi]
        rw [e]
        have := (hF i hi).1
        simp only [addr_add] at this
        exact this
    · intro y hy
      simp at hy
      obtain ⟨i, hi, rfl⟩ := hy
      exact (hF i hi).2

/-- The numbers of a transaction fit their kind. -/
def Tx.wf (t : Tx) : Prop := (∀ y ∈ t.r, (Lit.int .i64 y).wf = true) ∧ (∀ y ∈ t.w, (Lit.int .i64 y).wf = true) ∧ (∀ y ∈ t.c, (Lit.int .i64 y.op).wf = true ∧ (Lit.int .i64 y.a).wf = true ∧ (Lit.int .i64 y.b).wf = true ∧ (Lit.int .i64 y.c).wf = true)

set_option maxRecDepth 100000 in
/-- An 'api.Txn' that is read: by its cells. -/
theorem open_txn_cells {fuel : Nat} {cs : List Value} {x : DataW H × List MemPlace} (h : DataW.trod enc Tryz.prog w base spare held fuel 33 cs = some x) (hz : ∀ z ∈ DataW.weights Tryz.prog 33 x.1, z ≤ reachBytes) :
    ∃ (hd : TH) (t : Tx), cs = hd.cells.toList ∧ TxAt w hd t ∧ t.wf ∧ (hd.r.a = none → hd.r.n = 0 ∧ hd.r.c = 0) ∧ (hd.w.a = none → hd.w.n = 0 ∧ hd.w.c = 0) ∧ (hd.c.a = none → hd.c.n = 0 ∧ hd.c.c = 0) := by
  obtain ⟨y0, y1, y2, n, rfl, hl, t0, t1, t2⟩ := Deep.trod_struct3 Tryz.underlying33 h
  rw [Tryz.cells33] at hl
  match cs, hl with
  | [v0, v1, v2], _ =>
    simp only [Tryz.cells30, Tryz.cells31, List.drop_zero, List.take_succ_cons, List.take_zero, List.drop_succ_cons] at t0 t1 t2
    simp only [DataW.weights, Tryz.underlying33, DataW.weightsEach, List.map_cons, List.map_nil, List.append_nil, List.mem_append] at hz
    obtain ⟨ra, rn, rc, R, e0, p1, p2, p3, p4, p5, p6⟩ := open_ints_at t0 (fun z hz' => hz z (Or.inl hz'))
    obtain ⟨wa, wn, wc, W, e1, q1, q2, q3, q4, q5, q6⟩ := open_ints_at t1 (fun z hz' => hz z (Or.inr (Or.inl hz')))
    obtain ⟨ca, cn, cc, C, e2, r1, r2, r3, r4, r5, r6⟩ := open_instrs_at t2 (fun z hz' => hz z (Or.inr (Or.inr hz')))
    simp only [List.cons.injEq, and_true] at e0 e1 e2
    subst e0 e1 e2
    exact ⟨⟨⟨ra, rn, rc⟩, ⟨wa, wn, wc⟩, ⟨ca, cn, cc⟩⟩, ⟨R, W, C⟩, rfl, ⟨p1, q1, r1, p2, q2, r2, p3, q3, r3, p4, q4, r4⟩, ⟨p5, q5, r5⟩, p6, q6, r6⟩

end

end Go.Proofs.YtlheloogmgmjnaaGreat

namespace Go.Proofs.YtlheloogmgmjnaaGreat
open Go.ChangeShapes Go.WideShapes Go.ChangeAt Go.RowKit

theorem Tryz.cells35 : Tryz.prog.cellsOf 35 = 7 := by kernel_rfl
theorem Tryz.bytes35 : Tryz.prog.bytesOf 35 = 104 := by kernel_rfl

/-- One step of a script. -/
structure OpV where
  kind : Int
  a : Int
  b : Int
  c : Int
  hd : TH
  t : Tx
def OpV.zero : OpV := ⟨0, 0, 0, 0, ⟨⟨none, 0, 0⟩, ⟨none, 0, 0⟩, ⟨none, 0, 0⟩⟩, ⟨[], [], []⟩⟩

/-- A step lies at a place. -/
structure OpAt (w : World) (b o : Nat) (x : OpV) : Prop where
  k0 : w.cell? ⟨b, o, none⟩ = some (.int .i64 x.kind)
  k1 : w.cell? ⟨b, o + 1, none⟩ = some (.int .i64 x.a)
  k2 : w.cell? ⟨b, o + 2, none⟩ = some (.int .i64 x.b)
  k3 : w.cell? ⟨b, o + 3, none⟩ = some (.int .i64 x.c)
  k4 : w.cell? ⟨b, o + 4, none⟩ = some (.slice x.hd.r.a x.hd.r.n x.hd.r.c)
  k5 : w.cell? ⟨b, o + 5, none⟩ = some (.slice x.hd.w.a x.hd.w.n x.hd.w.c)
  k6 : w.cell? ⟨b, o + 6, none⟩ = some (.slice x.hd.c.a x.hd.c.n x.hd.c.c)
  tx : TxAt w x.hd x.t
  nl : (x.hd.r.a = none → x.hd.r.n = 0 ∧ x.hd.r.c = 0) ∧ (x.hd.w.a = none → x.hd.w.n = 0 ∧ x.hd.w.c = 0) ∧ (x.hd.c.a = none → x.hd.c.n = 0 ∧ x.hd.c.c = 0)

def OpV.wf (x : OpV) : Prop := (Lit.int .i64 x.kind).wf = true ∧ (Lit.int .i64 x.a).wf = true ∧ (Lit.int .i64 x.b).wf = true ∧ (Lit.int .i64 x.c).wf = true ∧ x.t.wf

/-- A script lies in memory. -/
def OpsAt (w : World) (ao : Option Addr) (xs : List OpV) : Prop :=
  xs = [] ∨ ∃ b o, ao = some ⟨b, o, none⟩ ∧ ∀ i, i < xs.length → OpAt w b (o + i * 7) (xs.getD i OpV.zero)

theorem OpAt.below {w w' : World} {b o : Nat} {x : OpV} (h : OpAt w b o x) (hb : Below w.heap.size w w') : OpAt w' b o x :=
  ⟨cell_below hb (Nat.le_refl _) h.k0, cell_below hb (Nat.le_refl _) h.k1, cell_below hb (Nat.le_refl _) h.k2, cell_below hb (Nat.le_refl _) h.k3, cell_below hb (Nat.le_refl _) h.k4, cell_below hb (Nat.le_refl _) h.k5, cell_below hb (Nat.le_refl _) h.k6, h.tx.below hb, h.nl⟩
theorem OpsAt.below {w w' : World} {ao : Option Addr} {xs : List OpV} (h : OpsAt w ao xs) (hb : Below w.heap.size w w') : OpsAt w' ao xs := by
  rcases h with h | ⟨b, o, rfl, hx⟩
  · exact Or.inl h
  · exact Or.inr ⟨b, o, rfl, fun i hi => (hx i hi).below hb⟩

section
variable {H : Type} {enc : TypeId × Value → H} {w : World} {base : Nat} {spare : Nat → Bool} {held : Bool}

theorem trod_five {P : Program} {t : TypeId} {f0 f1 f2 f3 f4 : Field} {fuel : Nat} {cs : List Value} {x : DataW H × List MemPlace} (ht : P.underlying t = some (.struct #[f0, f1, f2, f3, f4])) (h : DataW.trod enc P w base spare held fuel t cs = some x) :
    ∃ y0 y1 y2 y3 y4 n, x.1 = .agg [y0.1, y1.1, y2.1, y3.1, y4.1] ∧ cs.length = P.cellsOf t ∧ DataW.trod enc P w base spare held n f0.type ((cs.drop f0.offset).take (P.cellsOf f0.type)) = some y0 ∧
      DataW.trod enc P w base spare held n f1.type ((cs.drop f1.offset).take (P.cellsOf f1.type)) = some y1 ∧ DataW.trod enc P w base spare held n f2.type ((cs.drop f2.offset).take (P.cellsOf f2.type)) = some y2 ∧
      DataW.trod enc P w base spare held n f3.type ((cs.drop f3.offset).take (P.cellsOf f3.type)) = some y3 ∧ DataW.trod enc P w base spare held n f4.type ((cs.drop f4.offset).take (P.cellsOf f4.type)) = some y4 := by
  obtain ⟨xs, n, _, rfl, hl, hlen, hf⟩ := DataW.trod_struct ht h
  match xs, hlen with
  | [y0, y1, y2, y3, y4], _ => exact ⟨y0, y1, y2, y3, y4, n, by simp, hl, by simpa using hf 0 f0 rfl, by simpa using hf 1 f1 rfl, by simpa using hf 2 f2 rfl, by simpa using hf 3 f3 rfl, by simpa using hf 4 f4 rfl⟩

theorem weights_mem_all {P : Program} {e : TypeId} {d : DataW H} : ∀ {ds : List (DataW H)}, d ∈ ds → ∀ z ∈ DataW.weights P e d, z ∈ DataW.weightsAll P e ds
  | [], h, _, _ => by cases h
  | d' :: r, h, z, hz => by
    simp only [DataW.weightsAll, List.mem_append]
    rcases List.mem_cons.1 h with rfl | h
    · exact Or.inl hz
    · exact Or.inr (weights_mem_all h z hz)

set_option maxRecDepth 100000 in
/-- A '[]Op' that is read. -/
theorem open_ops_at {fuel : Nat} {cs : List Value} {x : DataW H × List MemPlace} (h : DataW.trod enc Tryz.prog w base spare held fuel 22 cs = some x) (hz : ∀ z ∈ DataW.weights Tryz.prog 22 x.1, z ≤ reachBytes) :
    ∃ (a : Option Addr) (n c : Nat) (xs : List OpV), cs = [.slice a n c] ∧ n = xs.length ∧ n ≤ c ∧ n * 104 ≤ 140737488351232 ∧ OpsAt w a xs ∧ ∀ y ∈ xs, y.wf := by
  rcases Deep.open_slice Tryz.underlying22 h with ⟨rfl, rfl⟩ | ⟨a, len, cap, m, n, D, Pl, rfl, hb, hl, hm, hmm, rfl, hx⟩
  · exact ⟨none, 0, 0, [], rfl, rfl, Nat.le_refl _, by omega, Or.inl rfl, by simp⟩
  · rw [Tryz.cells35] at hx
    have hml : len ≤ m := by rw [hmm]; split <;> omega
    have hall : ∀ i, i < len → ∃ k : OpV, (w.cell? ((a.add (i * 7)).add 0) = some (.int .i64 k.kind) ∧ w.cell? ((a.add (i * 7)).add 1) = some (.int .i64 k.a) ∧ w.cell? ((a.add (i * 7)).add 2) = some (.int .i64 k.b) ∧ w.cell? ((a.add (i * 7)).add 3) = some (.int .i64 k.c) ∧
        w.cell? ((a.add (i * 7)).add 4) = some (.slice k.hd.r.a k.hd.r.n k.hd.r.c) ∧ w.cell? ((a.add (i * 7)).add 5) = some (.slice k.hd.w.a k.hd.w.n k.hd.w.c) ∧ w.cell? ((a.add (i * 7)).add 6) = some (.slice k.hd.c.a k.hd.c.n k.hd.c.c) ∧ TxAt w k.hd k.t ∧ ((k.hd.r.a = none → k.hd.r.n = 0 ∧ k.hd.r.c = 0) ∧ (k.hd.w.a = none → k.hd.w.n = 0 ∧ k.hd.w.c = 0) ∧ (k.hd.c.a = none → k.hd.c.n = 0 ∧ k.hd.c.c = 0))) ∧ k.wf := by
      intro i hi
      obtain ⟨cs', h1, h2⟩ := hx i (by omega)
      obtain ⟨_, hlen, hc⟩ := World.cells?_some h1
      have hzi : ∀ z ∈ DataW.weights Tryz.prog 35 (D i), z ≤ reachBytes := by
        intro z hz'
        refine hz z ?_
        simp only [DataW.weights, Tryz.underlying22, List.mem_cons, List.mem_append]
        exact Or.inr (Or.inl (weights_mem_all (List.mem_map.2 ⟨i, List.mem_range.2 hi, rfl⟩) z hz'))
      obtain ⟨y0, y1, y2, y3, y4, n', hD, _, t0, t1, t2, t3, t4⟩ := trod_five Tryz.underlying35 h2
      match cs', hlen with
      | [v0, v1, v2, v3, v4, v5, v6], _ =>
        simp only [Tryz.cells3, Tryz.cells33, List.drop_zero, List.take_succ_cons, List.take_zero, List.drop_succ_cons] at t0 t1 t2 t3 t4
        obtain ⟨k0, e0, _, f0⟩ := DataW.trod_int Tryz.underlying3 t0
        obtain ⟨k1, e1, _, f1⟩ := DataW.trod_int Tryz.underlying3 t1
        obtain ⟨k2, e2, _, f2⟩ := DataW.trod_int Tryz.underlying3 t2
        obtain ⟨k3, e3, _, f3⟩ := DataW.trod_int Tryz.underlying3 t3
        obtain ⟨hd, t, e4, hx4, f4, n4⟩ := open_txn_cells t4 (fun z hz' => hzi z (by
          simp only at hD
          rw [hD]
          simp only [DataW.weights, Tryz.underlying35, DataW.weightsEach, List.map_cons, List.map_nil, List.append_nil, List.mem_append]
          exact Or.inr (Or.inr (Or.inr (Or.inr hz')))))
        simp only [TH.cells, List.cons.injEq, and_true] at e0 e1 e2 e3 e4
        obtain ⟨e4, e5, e6⟩ := e4
        subst e0 e1 e2 e3 e4 e5 e6
        exact ⟨⟨k0, k1, k2, k3, hd, t⟩, ⟨hc 0 (by omega), hc 1 (by omega), hc 2 (by omega), hc 3 (by omega), hc 4 (by omega), hc 5 (by omega), hc 6 (by omega), hx4, n4⟩, f0, f1, f2, f3, f4⟩
    have : Inhabited OpV := ⟨OpV.zero⟩
    obtain ⟨F, hF⟩ := Deep.choose_lt hall
    have hb8 : len * 104 ≤ reachBytes := by
      have := hz ((len + (m - len)) * 104) (by simp [DataW.weights, Tryz.underlying22, Tryz.bytes35])
      omega
    refine ⟨some a, len, cap, (List.range len).map F, rfl, by simp, hl, by simpa [reachBytes] using hb8, ?_, ?_⟩
    · by_cases h0 : len = 0
      · exact Or.inl (by simp [h0])
      · obtain ⟨b, off, spot⟩ := a
        have hspot : spot = none := by simpa [Addr.add] using World.cell?_spot (hF 0 (by omega)).1.1
        subst hspot
        refine Or.inr ⟨b, off, rfl, fun i hi => ?_⟩
        simp at hi
        have e : ((List.range len).map F).getD i OpV.zero = F i := by simp [List.getD, hi]
        rw [e]
        obtain ⟨q0, q1, q2, q3, q4, q5, q6, q7, q8⟩ := (hF i hi).1
        simp only [addr_add] at q0 q1 q2 q3 q4 q5 q6
        exact ⟨q0, q1, q2, q3, q4, q5, q6, q7, q8⟩
    · intro y hy
      simp at hy
      obtain ⟨i, hi, rfl⟩ := hy
      exact (hF i hi).2

end

end Go.Proofs.YtlheloogmgmjnaaGreat
