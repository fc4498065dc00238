import Derived.Test.YtlheloogmgmjnaaGreatMem
import Derived.Test.YtlheloogmgmjnaaGreatNumbers
import Derived.ProofKit
import Derived.SizedLaws
import Derived.Deep.Slices
import Derived.Deep.Strs
import Derived.Lib.SmallJoins
namespace Go.Proofs.YtlheloogmgmjnaaGreat
open Go.ChangeShapes Go.WideShapes Go.ChangeAt Go.RowKit

theorem Tryz.own : ownKnob Tryz.prog.godebug = none := by kernel_rfl
theorem Tryz.laidOut : laidOutB Tryz.prog = true := by kernel_rfl
theorem Tryz.cells3 : Tryz.prog.cellsOf 3 = 1 := by kernel_rfl
theorem Tryz.bytes3 : Tryz.prog.bytesOf 3 = 8 := by kernel_rfl
theorem Tryz.cells114 : Tryz.prog.cellsOf 114 = 4 := by kernel_rfl
theorem Tryz.bytes114 : Tryz.prog.bytesOf 114 = 32 := by kernel_rfl
theorem Tryz.cells30 : Tryz.prog.cellsOf 30 = 1 := by kernel_rfl
theorem Tryz.cells31 : Tryz.prog.cellsOf 31 = 1 := by kernel_rfl
theorem Tryz.cells33 : Tryz.prog.cellsOf 33 = 3 := by kernel_rfl

section
variable {H : Type} {enc : TypeId × Value → H} {w : World} {base : Nat} {spare : Nat → Bool} {held : Bool}

/-- A '[]int' that is read. -/
theorem open_ints_at {fuel : Nat} {cs : List Value} {x : DataW H × List MemPlace} (h : DataW.trod enc Tryz.prog w base spare held fuel 30 cs = some x) (hz : ∀ z ∈ DataW.weights Tryz.prog 30 x.1, z ≤ reachBytes) :
    ∃ (a : Option Addr) (n c : Nat) (xs : List Int), cs = [.slice a n c] ∧ n = xs.length ∧ n ≤ c ∧ n * 8 ≤ 140737488351232 ∧ IntsAt w a xs ∧ (∀ y ∈ xs, (Lit.int .i64 y).wf = true) ∧ (a = none → n = 0 ∧ c = 0) := by
  rcases Deep.open_slice1 Tryz.underlying30 Tryz.cells3 h with ⟨rfl, rfl⟩ | ⟨a, len, cap, m, n, V, D, Pl, rfl, hb, hl, hm, hmm, rfl, hx⟩
  · exact ⟨none, 0, 0, [], rfl, rfl, Nat.le_refl _, by omega, Or.inl rfl, by simp, fun _ => ⟨rfl, rfl⟩⟩
  · have hml : len ≤ m := by rw [hmm]; split <;> omega
    have hall : ∀ i, i < len → ∃ k, w.cell? (a.add i) = some (.int .i64 k) ∧ (Lit.int .i64 k).wf = true := by
      intro i hi
      obtain ⟨h1, h2⟩ := hx i (by omega)
      obtain ⟨k, hk, _, hwf⟩ := DataW.trod_int Tryz.underlying3 h2
      simp only [List.cons.injEq, and_true] at hk
      exact ⟨k, by rw [h1, hk], hwf⟩
    obtain ⟨F, hF⟩ := Deep.choose_lt hall
    have hb8 : len * 8 ≤ reachBytes := by
      have := hz ((len + (m - len)) * 8) (by simp [DataW.weights, Tryz.underlying30, Tryz.bytes3])
      omega
    refine ⟨some a, len, cap, (List.range len).map F, rfl, by simp, hl, by simpa [reachBytes] using hb8, ?_, ?_, fun h => by cases h⟩
    · by_cases h0 : len = 0
      · exact Or.inl (by simp [h0])
      · obtain ⟨b, off, spot⟩ := a
        have hspot : spot = none := by simpa [Addr.add] using World.cell?_spot (hF 0 (by omega)).1
        subst hspot
        refine Or.inr ⟨b, off, rfl, fun i hi => ?_⟩
        simp at hi
        rw [← addr_add, (hF i hi).1]
        simp [List.getD, hi]
    · intro y hy
      simp at hy
      obtain ⟨i, hi, rfl⟩ := hy
      exact (hF i hi).2

/-- A '[]api.Instr' that is read. -/
theorem open_instrs_at {fuel : Nat} {cs : List Value} {x : DataW H × List MemPlace} (h : DataW.trod enc Tryz.prog w base spare held fuel 31 cs = some x) (hz : ∀ z ∈ DataW.weights Tryz.prog 31 x.1, z ≤ reachBytes) :
    ∃ (a : Option Addr) (n c : Nat) (xs : List Ins), cs = [.slice a n c] ∧ n = xs.length ∧ n ≤ c ∧ n * 32 ≤ 140737488351232 ∧ InsAt w a xs ∧ (∀ y ∈ xs, (Lit.int .i64 y.op).wf = true ∧ (Lit.int .i64 y.a).wf = true ∧ (Lit.int .i64 y.b).wf = true ∧ (Lit.int .i64 y.c).wf = true) ∧ (a = none → n = 0 ∧ c = 0) := by
  rcases Deep.open_slice Tryz.underlying31 h with ⟨rfl, rfl⟩ | ⟨a, len, cap, m, n, D, Pl, rfl, hb, hl, hm, hmm, rfl, hx⟩
  · exact ⟨none, 0, 0, [], rfl, rfl, Nat.le_refl _, by omega, Or.inl rfl, by simp, fun _ => ⟨rfl, rfl⟩⟩
  · rw [Tryz.cells114] at hx
    have hml : len ≤ m := by rw [hmm]; split <;> omega
    have hall : ∀ i, i < len → ∃ k : Ins, (w.cell? ((a.add (i * 4)).add 0) = some (.int .i64 k.op) ∧ w.cell? ((a.add (i * 4)).add 1) = some (.int .i64 k.a) ∧ w.cell? ((a.add (i * 4)).add 2) = some (.int .i64 k.b) ∧ w.cell? ((a.add (i * 4)).add 3) = some (.int .i64 k.c)) ∧
        ((Lit.int .i64 k.op).wf = true ∧ (Lit.int .i64 k.a).wf = true ∧ (Lit.int .i64 k.b).wf = true ∧ (Lit.int .i64 k.c).wf = true) := by
      intro i hi
      obtain ⟨cs', h1, h2⟩ := hx i (by omega)
      obtain ⟨_, hlen, hc⟩ := World.cells?_some h1
      match cs', hlen with
      | [v0, v1, v2, v3], _ =>
        obtain ⟨y0, y1, y2, y3, n', _, _, t0, t1, t2, t3⟩ := Joins.trod_struct4 Tryz.underlying114 h2
        simp only [Tryz.cells3, List.drop_zero, List.take_succ_cons, List.take_zero, List.drop_succ_cons] at t0 t1 t2 t3
        obtain ⟨k0, e0, _, f0⟩ := DataW.trod_int Tryz.underlying3 t0
        obtain ⟨k1, e1, _, f1⟩ := DataW.trod_int Tryz.underlying3 t1
        obtain ⟨k2, e2, _, f2⟩ := DataW.trod_int Tryz.underlying3 t2
        obtain ⟨k3, e3, _, f3⟩ := DataW.trod_int Tryz.underlying3 t3
        simp only [List.cons.injEq, and_true] at e0 e1 e2 e3
        subst e0 e1 e2 e3
        exact ⟨⟨k0, k1, k2, k3⟩, ⟨hc 0 (by omega), hc 1 (by omega), hc 2 (by omega), hc 3 (by omega)⟩, f0, f1, f2, f3⟩
    have : Inhabited Ins := ⟨Ins.zero⟩
    obtain ⟨F, hF⟩ := Deep.choose_lt hall
    have hb8 : len * 32 ≤ reachBytes := by
      have := hz ((len + (m - len)) * 32) (by simp [DataW.weights, Tryz.underlying31, Tryz.bytes114])
      omega
    refine ⟨some a, len, cap, (List.range len).map F, rfl, by simp, hl, by simpa [reachBytes] using hb8, ?_, ?_, fun h => by cases h⟩
    · by_cases h0 : len = 0
      · exact Or.inl (by simp [h0])
      · obtain ⟨b, off, spot⟩ := a
        have hspot : spot = none := by simpa [Addr.add] using World.cell?_spot (hF 0 (by omega)).1.1
        subst hspot
        refine Or.inr ⟨b, off, rfl, fun i hi => ?_⟩
        simp at hi
        have e : ((List.range len).map F).getD i Ins.zero = F i := by simp [List.getD, hi]
        rw [e]
        have := (hF i hi).1
        simp only [addr_add] at this
        exact this
    · intro y hy
      simp at hy
      obtain ⟨i, hi, rfl⟩ := hy
      exact (hF i hi).2

/-- The numbers of a transaction fit their kind. -/
def Tx.wf (t : Tx) : Prop := (∀ y ∈ t.r, (Lit.int .i64 y).wf = true) ∧ (∀ y ∈ t.w, (Lit.int .i64 y).wf = true) ∧ (∀ y ∈ t.c, (Lit.int .i64 y.op).wf = true ∧ (Lit.int .i64 y.a).wf = true ∧ (Lit.int .i64 y.b).wf = true ∧ (Lit.int .i64 y.c).wf = true)

set_option maxRecDepth 100000 in
/-- An 'api.Txn' that is read: by its cells. -/
theorem open_txn_cells {fuel : Nat} {cs : List Value} {x : DataW H × List MemPlace} (h : DataW.trod enc Tryz.prog w base spare held fuel 33 cs = some x) (hz : ∀ z ∈ DataW.weights Tryz.prog 33 x.1, z ≤ reachBytes) :
    ∃ (hd : TH) (t : Tx), cs = hd.cells.toList ∧ TxAt w hd t ∧ t.wf ∧ (hd.r.a = none → hd.r.n = 0 ∧ hd.r.c = 0) ∧ (hd.w.a = none → hd.w.n = 0 ∧ hd.w.c = 0) ∧ (hd.c.a = none → hd.c.n = 0 ∧ hd.c.c = 0) := by
  obtain ⟨y0, y1, y2, n, rfl, hl, t0, t1, t2⟩ := Deep.trod_struct3 Tryz.underlying33 h
  rw [Tryz.cells33] at hl
  match cs, hl with
  | [v0, v1, v2], _ =>
    simp only [Tryz.cells30, Tryz.cells31, List.drop_zero, List.take_succ_cons, List.take_zero, List.drop_succ_cons] at t0 t1 t2
    simp only [DataW.weights, Tryz.underlying33, DataW.weightsEach, List.map_cons, List.map_nil, List.append_nil, List.mem_append] at hz
    obtain ⟨ra, rn, rc, R, e0, p1, p2, p3, p4, p5, p6⟩ := open_ints_at t0 (fun z hz' => hz z (Or.inl hz'))
    obtain ⟨wa, wn, wc, W, e1, q1, q2, q3, q4, q5, q6⟩ := open_ints_at t1 (fun z hz' => hz z (Or.inr (Or.inl hz')))
    obtain ⟨ca, cn, cc, C, e2, r1, r2, r3, r4, r5, r6⟩ := open_instrs_at t2 (fun z hz' => hz z (Or.inr (Or.inr hz')))
    simp only [List.cons.injEq, and_true] at e0 e1 e2
    subst e0 e1 e2
    exact ⟨⟨⟨ra, rn, rc⟩, ⟨wa, wn, wc⟩, ⟨ca, cn, cc⟩⟩, ⟨R, W, C⟩, rfl, ⟨p1, q1, r1, p2, q2, r2, p3, q3, r3, p4, q4, r4⟩, ⟨p5, q5, r5⟩, p6, q6, r6⟩

end

end Go.Proofs.YtlheloogmgmjnaaGreat
