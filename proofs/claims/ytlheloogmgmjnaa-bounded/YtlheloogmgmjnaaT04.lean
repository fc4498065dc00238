import Derived.Test.YtlheloogmgmjnaaT01
import Derived.OrdersHeld
import Derived.Deep.RegionHeld
namespace Go.Proofs.Ytlheloogmgmjnaa
open Go.RowKit

section
variable {P : Program} {ops : Array Oper} {Q : Exit → Act → World → Prop} {md : Region.Mode} {S : World → Prop}

/-- What a step may come to: the value v, and a world of S. -/
def Lands (P : Program) (S : World → Prop) (v : Value) : Result Next → Prop
  | .ok (.value u) w' => u = v ∧ S w'
  | .ok .skip w' => v = undef ∧ S w'
  | .ok (.enter f args) w' => Calls P f args w' fun e w'' => e = .returned v ∧ S w''
  | _ => False

theorem lands_value {v : Value} {w : World} {r : Result Next} (h : r = .ok (.value v) w) (hS : S w) : Lands P S v r := by rw [h]; exact ⟨rfl, hS⟩
theorem lands_enter {v : Value} {w : World} {r : Result Next} {f : FuncId} {args : Array Value} (h : r = .ok (.enter f args) w) (hc : Calls P f args w fun e w'' => e = .returned v ∧ S w'') : Lands P S v r := by rw [h]; exact hc

def SteadyOp (P : Program) (ops : Array Oper) (S : World → Prop) (o : Oper) (v : Value) (a : Act) : Prop :=
  Region.wanted o (yielded ops a.tmps) = true ∧ ∀ w, S w → Lands P S v ((execOp a.eval o).run P w)

theorem SteadyOp.wpOp {i : Nat} {o : Oper} {v : Value} {a : Act} (hi : ops[i]? = some o) (hy : SteadyOp P ops S o v a)
    {K : Act → World → Prop} {w : World} (hS : S w) (h : ∀ w', S w' → K (a.put o.dst v) w') : wpOp P ops Q i K a w := by
  obtain ⟨hw, hv⟩ := hy
  have := hv w hS
  unfold Go.wpOp
  simp only [hi, hw, if_true]
  refine .inl ?_
  unfold Oper.wp
  generalize (execOp a.eval o).run P w = r at *
  cases r with
  | halt x w' => exact this.elim
  | ok n w' =>
    cases n <;> simp only [Lands, Oper.upon] at this ⊢
    case value u => obtain ⟨rfl, hs⟩ := this; exact h _ hs
    case skip => obtain ⟨rfl, hs⟩ := this; exact h _ hs
    case enter f args => exact Calls.mono this fun e w'' he => by obtain ⟨rfl, hs⟩ := he; exact h _ hs

theorem SteadyOp.of_same {o : Oper} {v : Value} {a a' : Act} (hy : SteadyOp P ops S o v a) (he : execOp a'.eval o = execOp a.eval o)
    (hw : Region.wanted o (yielded ops a'.tmps) = Region.wanted o (yielded ops a.tmps)) : SteadyOp P ops S o v a' := by
  unfold SteadyOp at *
  rw [he, hw]
  exact hy

theorem wpOp_putSt {j : Nat} {oi oj : Oper} {v : Value} (hj : ops[j]? = some oj) (hap : oi.apart ops oj = true)
    (hsi : ∀ cs b, oi.op ≠ .select cs b) (hsj : ∀ cs b, oj.op ≠ .select cs b)
    (hQ : ∀ c a w, Q (.panic c) (a.put oi.dst v) w → Q (.panic c) a w) {K : Act → World → Prop} {a : Act} {w : World}
    (hy : SteadyOp P ops S oi v a) (h : wpOp P ops Q j K (a.put oi.dst v) w) :
    wpOp P ops Q j (fun a' w' => SteadyOp P ops S oi v a' ∧ K (a'.put oi.dst v) w') a w := by
  obtain ⟨h1, h2, h3⟩ := Oper.apart_spec hap
  have keep : ∀ (a : Act), SteadyOp P ops S oi v a → ∀ u, SteadyOp P ops S oi v (a.put oj.dst u) := fun a hy u =>
    hy.of_same (execOp_put oi hsi a oj.dst u h3) (wanted_put oi a oj.dst u h3)
  have keepD : ∀ d, SteadyOp P ops S oi v { a with defers := d :: a.defers } := fun d => hy.of_same rfl rfl
  unfold wpOp at *
  simp only [hj] at *
  rw [wanted_put oj a oi.dst v h1] at h
  split
  · rename_i hw
    simp only [hw, if_true] at h
    rcases h with h | ⟨hasks, hlets⟩
    case inr => exact .inr ⟨by unfold Oper.asks at *; rw [execOp_put oj hsj a oi.dst v h1] at hasks; exact hasks, hlets⟩
    refine .inl ?_
    unfold Oper.wp at *
    rw [execOp_put oj hsj a oi.dst v h1] at h
    generalize (execOp a.eval oj).run P w = r at *
    cases r with
    | ok n w' =>
      cases n <;> simp only [Oper.upon] at h ⊢
      case value u => exact ⟨keep a hy u, by rw [← Act.put_comm a v u h2]; exact h⟩
      case skip => exact ⟨keep a hy _, by rw [← Act.put_comm a v undef h2]; exact h⟩
      case defer d =>
        refine ⟨keep _ (keepD d) _, ?_⟩
        rw [← Act.put_comm _ v undef h2, ← Act.put_defers]
        exact h
      case enter f args =>
        refine Calls.mono h fun e w'' he => ?_
        cases e with
        | returned u => exact ⟨keep a hy u, by rw [← Act.put_comm a v u h2]; exact he⟩
        | panicked c => exact hQ _ _ _ he
        | outgrown => exact he
      case row row args => exact Rows.mono h fun u w'' he => ⟨keep a hy u, by rw [← Act.put_comm a v u h2]; exact he⟩
    | halt x w' =>
      cases x <;> simp only [Oper.upon] at h ⊢
      case panic u => exact hQ _ _ _ h
  · rename_i hw
    simp only [hw] at h
    exact ⟨keep a hy _, by rw [← Act.put_comm a v undef h2]; exact h⟩

/-- Whatever order is picked, till L has come up; there, in whatever world of S, the rest. -/
def wpU (P : Program) (md : Region.Mode) (ops : Array Oper) (Q : Exit → Act → World → Prop) (S : World → Prop) (L : Array Bool) : Nat → Array Bool → Act → Prop
  | 0, listed, a => listed = L ∧ ∀ w, S w → wpAny P md ops Q 0 listed a w
  | fuel + 1, listed, a =>
    (listed = L ∧ ∀ w, S w → wpAny P md ops Q (fuel + 1) listed a w) ∨
    (Region.ready md ops listed ≠ [] ∧ ∀ i ∈ Region.ready md ops listed, ∀ w, S w → wpOp P ops Q i (fun a' w' => S w' ∧ wpU P md ops Q S L fuel (listed.setIfInBounds i true) a') a w)

theorem wpAny_of_U {L : Array Bool} : ∀ (fuel : Nat) (listed : Array Bool) (a : Act) (w : World), S w → wpU P md ops Q S L fuel listed a → wpAny P md ops Q fuel listed a w
  | 0, _, _, w, hS, h => h.2 w hS
  | fuel + 1, _, _, w, hS, h => by
    rcases h with h | ⟨hne, h⟩
    · exact h.2 w hS
    · exact ⟨fun h0 => absurd h0 hne, fun i hi => wpOp_mono (fun a' w' h' => wpAny_of_U fuel _ a' w' h'.1 h'.2) (h i hi w hS)⟩

theorem wpU_leaf {L : Array Bool} {a : Act} (fuel : Nat) (h : ∀ w, S w → wpAny P md ops Q fuel L a w) : wpU P md ops Q S L fuel L a := by
  cases fuel with
  | zero => exact ⟨rfl, h⟩
  | succ n => exact Or.inl ⟨rfl, h⟩

theorem wpU_leaf' {L listed : Array Bool} {a : Act} (fuel : Nat) (hl : listed = L) (h : ∀ w, S w → wpAny P md ops Q fuel L a w) : wpU P md ops Q S L fuel listed a := by
  subst hl; exact wpU_leaf fuel h

theorem only_ready {L : Array Bool} {i : Nat} (hL : (Region.ready md ops (L.setIfInBounds i false)).all (· == i) = true) : ∀ listed : Array Bool, i ∈ Region.ready md ops listed → listed.setIfInBounds i true = L → ∀ j ∈ Region.ready md ops listed, j = i := by
  intro listed hr hl j hj
  have h0 := (mem_ready.1 hr).1
  have e : L.setIfInBounds i false = listed := by
    rw [← hl]
    have hlt : i < listed.size := by
      rcases Nat.lt_or_ge i listed.size with h' | h'
      · exact h'
      · simp [Array.getElem?_eq_none h'] at h0
    have hli : listed[i] = false := by simpa [hlt] using h0
    apply Array.ext
    · simp
    · intro k h1 h2
      by_cases hk : i = k
      · subst hk; simp [hli]
      · simp only [Array.setIfInBounds_setIfInBounds]; rw [Array.getElem_setIfInBounds (by simpa using h1)]; simp [hk]
  rw [e, List.all_eq_true] at hL
  simpa using hL j hj

theorem wpU_first {L : Array Bool} {i : Nat} {oi : Oper} {v : Value} (hi : ops[i]? = some oi) (hsel : ∀ (j : Nat) (o : Oper) cs b, ops[j]? = some o → o.op ≠ .select cs b)
    (hQ : ∀ c a w, Q (.panic c) (a.put oi.dst v) w → Q (.panic c) a w) (hL : (Region.ready md ops (L.setIfInBounds i false)).all (· == i) = true) :
    ∀ (fuel : Nat) (listed : Array Bool) (a : Act),
      (∀ j oj, ops[j]? = some oj → j ≠ i → listed.getD j true = false → (∀ e ∈ oj.after, Region.binds md e = true → e.on ≠ i) → oi.apart ops oj = true) →
      i ∈ Region.ready md ops listed → SteadyOp P ops S oi v a →
      wpU P md ops Q S L fuel (listed.setIfInBounds i true) (a.put oi.dst v) → wpU P md ops Q S L (fuel + 1) listed a := by
  have only := only_ready (md := md) (ops := ops) hL
  intro fuel
  induction fuel with
  | zero =>
    intro listed a _ hr hy H
    refine Or.inr ⟨fun h => (by rw [h] at hr; cases hr), fun j hj w hS => ?_⟩
    obtain rfl := only listed hr H.1 j hj
    exact hy.wpOp hi hS fun w' hS' => ⟨hS', H⟩
  | succ fuel ih =>
    intro listed a hfree hr hy H
    refine Or.inr ⟨fun h => (by rw [h] at hr; cases hr), fun j hj w hS => ?_⟩
    by_cases hji : j = i
    · subst hji; exact hy.wpOp hi hS fun w' hS' => ⟨hS', H⟩
    · rcases H with H | H
      · exact absurd (only listed hr H.1 j hj) hji
      · have h1 := H.2 j (ready_mono hj hji) w hS
        obtain ⟨hjun, oj, hoj, hall⟩ := mem_ready.1 hj
        have hnot : ∀ e ∈ oj.after, Region.binds md e = true → e.on ≠ i := fun e he hb heq => by
          have h1 := hall e he hb
          have h0 := (mem_ready.1 hr).1
          rw [heq] at h1
          rcases Nat.lt_or_ge i listed.size with h' | h'
          · simp [h'] at h0 h1; rw [h0] at h1; cases h1
          · simp [Array.getElem?_eq_none h'] at h1
        have h2 := wpOp_putSt hoj (hfree j oj hoj hji hjun hnot) (fun cs b => hsel i oi cs b hi) (fun cs b => hsel j oj cs b hoj) hQ hy h1
        have hfree' : ∀ k ok, ops[k]? = some ok → k ≠ i → (listed.setIfInBounds j true).getD k true = false →
            (∀ e ∈ ok.after, Region.binds md e = true → e.on ≠ i) → oi.apart ops ok = true := fun k ok hk hki hun hno => by
          refine hfree k ok hk hki ?_ hno
          by_cases hjk : j = k
          · subst hjk; exact hjun
          · rw [getD_set_ne true hjk] at hun; exact hun
        refine wpOp_mono (fun a' w' h3 => ⟨h3.2.1, ih (listed.setIfInBounds j true) a' hfree' (ready_mono hr (Ne.symm hji)) h3.1 ?_⟩) h2
        rw [Array.setIfInBounds_comm _ _ hji]
        exact h3.2.2

/-- Take number i. -/
theorem wpU_take {L : Array Bool} {i : Nat} {oi : Oper} {v : Value} {fuel : Nat} {listed : Array Bool} {a : Act} (hi : ops[i]? = some oi)
    (hs : Region.noSelect ops = true) (hf : Region.free md ops listed i = true) (hr : (Region.ready md ops listed).contains i = true) (hL : (Region.ready md ops (L.setIfInBounds i false)).all (· == i) = true)
    (hQ : ∀ c a w, Q (.panic c) (a.put oi.dst v) w → Q (.panic c) a w) (hw : Region.wanted oi (yielded ops a.tmps) = true) (hy : ∀ w, S w → Lands P S v ((execOp a.eval oi).run P w))
    (h : wpU P md ops Q S L fuel (listed.setIfInBounds i true) (a.put oi.dst v)) : wpU P md ops Q S L (fuel + 1) listed a :=
  wpU_first hi (Region.noSelect_spec hs) hQ hL fuel listed a (Region.free_spec hi hf) (by simpa using hr) ⟨hw, hy⟩ h

/-- The beginning. -/
theorem wp_region_U {L : Array Bool} {id : Nat} {a : Act} {w : World} (hm : P.follows .mixedOrders = true) (hS : S w.drew)
    (h : wpU P .any ops Q S L ops.size (Array.replicate ops.size false) a) : (Code.region id ops true).wp P Q a w :=
  wp_region_any hm (wpAny_of_U _ _ _ _ hS h)

/-- All have come up but one: it is carried out. -/
theorem wpAny_last {n : Nat} {o : Oper} {listed : Array Bool} {a : Act} {w : World} {fuel : Nat} (hr : Region.ready md ops listed = [n]) (hr2 : Region.ready md ops (listed.setIfInBounds n true) = []) (ho : ops[n]? = some o)
    (hw : Region.wanted o (yielded ops a.tmps) = true) (h : o.wp P a w (fun a' w' => Q .normal a' w') Q) : wpAny P md ops Q (fuel + 1) listed a w := by
  refine ⟨fun h0 => (by rw [hr] at h0; cases h0), fun i hi => ?_⟩
  rw [hr] at hi
  obtain rfl := List.mem_singleton.1 hi
  unfold wpOp
  simp only [ho, hw, if_true]
  refine .inl (Oper.wp_mono (fun a' w' h' => ?_) h)
  cases fuel with
  | zero => exact ⟨hr2, h'⟩
  | succ f => exact ⟨fun _ => h', fun i hi => by rw [hr2] at hi; cases hi⟩

/-- Just one may come up: it is carried out. -/
theorem wpAny_one {n : Nat} {o : Oper} {listed : Array Bool} {a : Act} {w : World} {fuel : Nat} (hr : Region.ready md ops listed = [n]) (ho : ops[n]? = some o)
    (hw : Region.wanted o (yielded ops a.tmps) = true) (h : ∀ K : Act → World → Prop, Shut (∀ a' w', wpAny P md ops Q fuel (listed.setIfInBounds n true) a' w' → K a' w') → o.wp P a w K Q) : wpAny P md ops Q (fuel + 1) listed a w := by
  refine ⟨fun h0 => (by rw [hr] at h0; cases h0), fun i hi => ?_⟩
  rw [hr] at hi
  obtain rfl := List.mem_singleton.1 hi
  unfold wpOp
  simp only [ho, hw, if_true]
  exact .inl (h _ (fun a' w' h' => h'))

/-- None is left. -/
theorem wpAny_none {listed : Array Bool} {a : Act} {w : World} (fuel : Nat) (hr : Region.ready md ops listed = []) (h : Q .normal a w) : wpAny P md ops Q fuel listed a w := by
  cases fuel with
  | zero => exact ⟨hr, h⟩
  | succ f => exact ⟨fun _ => h, fun i hi => by rw [hr] at hi; cases hi⟩

/-- Whatever order is picked, till L has come up, S held behind every step; there, the rest. -/
def wpL (P : Program) (md : Region.Mode) (ops : Array Oper) (Q : Exit → Act → World → Prop) (S : World → Prop) (L : Array Bool) : Nat → Array Bool → Act → World → Prop
  | 0, listed, a, w => listed = L ∧ wpAny P md ops Q 0 listed a w
  | fuel + 1, listed, a, w =>
    (listed = L ∧ wpAny P md ops Q (fuel + 1) listed a w) ∨
    (Region.ready md ops listed ≠ [] ∧ ∀ i ∈ Region.ready md ops listed, wpOp P ops Q i (fun a' w' => S w' ∧ wpL P md ops Q S L fuel (listed.setIfInBounds i true) a' w') a w)

theorem wpAny_of_L {L : Array Bool} : ∀ (fuel : Nat) (listed : Array Bool) (a : Act) (w : World), wpL P md ops Q S L fuel listed a w → wpAny P md ops Q fuel listed a w
  | 0, _, _, _, h => h.2
  | fuel + 1, _, _, _, h => by
    rcases h with h | ⟨hne, h⟩
    · exact h.2
    · exact ⟨fun h0 => absurd h0 hne, fun i hi => wpOp_mono (fun a' w' h' => wpAny_of_L fuel _ a' w' h'.2) (h i hi)⟩

theorem wpL_leaf {L listed : Array Bool} {a : Act} {w : World} (fuel : Nat) (hl : listed = L) (h : wpAny P md ops Q fuel L a w) : wpL P md ops Q S L fuel listed a w := by
  subst hl
  cases fuel with
  | zero => exact ⟨rfl, h⟩
  | succ n => exact Or.inl ⟨rfl, h⟩

theorem wpL_first {L : Array Bool} {i : Nat} {oi : Oper} {v : Value} (hi : ops[i]? = some oi) (hsel : ∀ (j : Nat) (o : Oper) cs b, ops[j]? = some o → o.op ≠ .select cs b)
    (hQ : ∀ c a w, Q (.panic c) (a.put oi.dst v) w → Q (.panic c) a w) (hL : (Region.ready md ops (L.setIfInBounds i false)).all (· == i) = true) :
    ∀ (fuel : Nat) (listed : Array Bool) (a : Act) (w : World),
      (∀ j oj, ops[j]? = some oj → j ≠ i → listed.getD j true = false → (∀ e ∈ oj.after, Region.binds md e = true → e.on ≠ i) → oi.apart ops oj = true) →
      i ∈ Region.ready md ops listed → YieldsIf P ops S oi v a → S w →
      wpL P md ops Q S L fuel (listed.setIfInBounds i true) (a.put oi.dst v) w → wpL P md ops Q S L (fuel + 1) listed a w := by
  have only := only_ready (md := md) (ops := ops) hL
  intro fuel
  induction fuel with
  | zero =>
    intro listed a w _ hr hy hS H
    refine Or.inr ⟨fun h => (by rw [h] at hr; cases hr), fun j hj => ?_⟩
    obtain rfl := only listed hr H.1 j hj
    exact hy.wpOp hi hS ⟨hS, H⟩
  | succ fuel ih =>
    intro listed a w hfree hr hy hS H
    refine Or.inr ⟨fun h => (by rw [h] at hr; cases hr), fun j hj => ?_⟩
    by_cases hji : j = i
    · subst hji; exact hy.wpOp hi hS ⟨hS, H⟩
    · rcases H with H | H
      · exact absurd (only listed hr H.1 j hj) hji
      · have h1 := H.2 j (ready_mono hj hji)
        obtain ⟨hjun, oj, hoj, hall⟩ := mem_ready.1 hj
        have hnot : ∀ e ∈ oj.after, Region.binds md e = true → e.on ≠ i := fun e he hb heq => by
          have h1 := hall e he hb
          have h0 := (mem_ready.1 hr).1
          rw [heq] at h1
          rcases Nat.lt_or_ge i listed.size with h' | h'
          · simp [h'] at h0 h1; rw [h0] at h1; cases h1
          · simp [Array.getElem?_eq_none h'] at h1
        have h2 := wpOp_putIf hoj (hfree j oj hoj hji hjun hnot) (fun cs b => hsel i oi cs b hi) (fun cs b => hsel j oj cs b hoj) hQ hy h1
        have hfree' : ∀ k ok, ops[k]? = some ok → k ≠ i → (listed.setIfInBounds j true).getD k true = false →
            (∀ e ∈ ok.after, Region.binds md e = true → e.on ≠ i) → oi.apart ops ok = true := fun k ok hk hki hun hno => by
          refine hfree k ok hk hki ?_ hno
          by_cases hjk : j = k
          · subst hjk; exact hjun
          · rw [getD_set_ne true hjk] at hun; exact hun
        refine wpOp_mono (fun a' w' h3 => ⟨h3.2.1, ih (listed.setIfInBounds j true) a' w' hfree' (ready_mono hr (Ne.symm hji)) h3.1 h3.2.1 ?_⟩) h2
        rw [Array.setIfInBounds_comm _ _ hji]
        exact h3.2.2

/-- Take number i: it yields v in every world of S. -/
theorem wpL_take {L : Array Bool} {i : Nat} {oi : Oper} {v : Value} {fuel : Nat} {listed : Array Bool} {a : Act} {w : World} (hi : ops[i]? = some oi)
    (hs : Region.noSelect ops = true) (hf : Region.free md ops listed i = true) (hr : (Region.ready md ops listed).contains i = true) (hL : (Region.ready md ops (L.setIfInBounds i false)).all (· == i) = true)
    (hQ : ∀ c a w, Q (.panic c) (a.put oi.dst v) w → Q (.panic c) a w) (hw : Region.wanted oi (yielded ops a.tmps) = true) (hy : ∀ w, S w → (execOp a.eval oi).run P w = .ok (.value v) w) (hS : S w)
    (h : wpL P md ops Q S L fuel (listed.setIfInBounds i true) (a.put oi.dst v) w) : wpL P md ops Q S L (fuel + 1) listed a w :=
  wpL_first hi (Region.noSelect_spec hs) hQ hL fuel listed a w (Region.free_spec hi hf) (by simpa using hr) (Or.inl ⟨hw, hy⟩) hS h

/-- Just one may come up: it is carried out. -/
theorem wpL_one {L : Array Bool} {n : Nat} {o : Oper} {fuel : Nat} {listed : Array Bool} {a : Act} {w : World} (hr : Region.ready md ops listed = [n]) (ho : ops[n]? = some o) (hw : Region.wanted o (yielded ops a.tmps) = true)
    (h : ∀ K : Act → World → Prop, Shut (∀ a' w', S w' → wpL P md ops Q S L fuel (listed.setIfInBounds n true) a' w' → K a' w') → o.wp P a w K Q) : wpL P md ops Q S L (fuel + 1) listed a w := by
  refine Or.inr ⟨fun h0 => (by rw [hr] at h0; cases h0), fun i hi => ?_⟩
  rw [hr] at hi
  obtain rfl := List.mem_singleton.1 hi
  unfold wpOp
  simp only [ho, hw, if_true]
  exact .inl (h _ (fun a' w' h1 h2 => ⟨h1, h2⟩))

/-- The beginning. -/
theorem wp_region_L {L : Array Bool} {id : Nat} {a : Act} {w : World} (hm : P.follows .mixedOrders = true)
    (h : wpL P .any ops Q S L ops.size (Array.replicate ops.size false) a w.drew) : (Code.region id ops true).wp P Q a w :=
  wp_region_any hm (wpAny_of_L _ _ _ _ h)

end
end Go.Proofs.Ytlheloogmgmjnaa

namespace Go.Proofs.Ytlheloogmgmjnaa
open Go.RowKit

section
variable {P : Program} {ops : Array Oper} {Q : Exit → Act → World → Prop} {md : Region.Mode} {S : World → Prop}

def consB (md : Region.Mode) (ops : Array Oper) (listed : Array Bool) : Bool :=
  (List.range ops.size).all fun k => !(listed.getD k true) || (match ops[k]? with | some o => o.after.all fun e => !(Region.binds md e) || (listed[e.on]? == some true) | none => true)

theorem consB_iff {listed : Array Bool} : consB md ops listed = true ↔ ∀ k o, ops[k]? = some o → listed.getD k true = true → ∀ e ∈ o.after, Region.binds md e = true → listed[e.on]? = some true := by
  unfold consB
  rw [List.all_eq_true]
  constructor
  · intro h k o ho hl e he hb
    have hk : k < ops.size := by
      by_cases hb : k < ops.size
      · exact hb
      · rw [Array.getElem?_eq_none (by omega)] at ho; cases ho
    have h1 := h k (List.mem_range.2 hk)
    simp only [ho, hl, Bool.not_true, Bool.false_or] at h1
    rw [Array.all_eq_true'] at h1
    have h2 := h1 e he
    simpa [hb] using h2
  · intro h k hk
    have hk' := List.mem_range.1 hk
    have ho : ops[k]? = some ops[k] := Array.getElem?_eq_getElem hk'
    rw [ho]
    by_cases hl : listed.getD k true = true
    · simp only [hl, Bool.not_true, Bool.false_or]
      rw [Array.all_eq_true']
      intro e he
      by_cases hb : Region.binds md e = true
      · simp [hb, h k _ ho hl e he hb]
      · simp [hb]
    · simp [hl]

theorem consB_next {listed : Array Bool} (h : consB md ops listed = true) {j : Nat} (hj : j ∈ Region.ready md ops listed) : consB md ops (listed.setIfInBounds j true) = true := by
  rw [consB_iff] at *
  obtain ⟨hjun, oj, hoj, hall⟩ := mem_ready.1 hj
  intro k o ho hl e he hb
  have mono : ∀ n : Nat, listed[n]? = some true → (listed.setIfInBounds j true)[n]? = some true := by
    intro n hn
    rw [Array.getElem?_setIfInBounds]
    split
    · rename_i hjn; subst hjn
      have : j < listed.size := by
        by_cases hb : j < listed.size
        · exact hb
        · rw [Array.getElem?_eq_none (by omega)] at hn; cases hn
      simp [this]
    · exact hn
  by_cases hjk : j = k
  · subst hjk
    rw [hoj] at ho
    obtain rfl := Option.some.inj ho
    have := hall e he hb
    refine mono _ ?_
    rw [Array.getD_eq_getD_getElem?] at this
    rcases hq : listed[e.on]? with _ | b
    · rw [hq] at this; cases this
    · rw [hq] at this; simpa using this
  · rw [getD_set_ne true hjk] at hl
    exact mono _ (h k o ho hl e he hb)

theorem only_readyC {L : Array Bool} {i : Nat} (hL : (!(consB md ops (L.setIfInBounds i false)) || (Region.ready md ops (L.setIfInBounds i false)).all (· == i)) = true) : ∀ listed : Array Bool, consB md ops listed = true → i ∈ Region.ready md ops listed → listed.setIfInBounds i true = L → ∀ j ∈ Region.ready md ops listed, j = i := by
  intro listed hc hr hl j hj
  have h0 := (mem_ready.1 hr).1
  have e : L.setIfInBounds i false = listed := by
    rw [← hl]
    have hlt : i < listed.size := by
      rcases Nat.lt_or_ge i listed.size with h' | h'
      · exact h'
      · simp [Array.getElem?_eq_none h'] at h0
    have hli : listed[i] = false := by simpa [hlt] using h0
    apply Array.ext
    · simp
    · intro k h1 h2
      by_cases hk : i = k
      · subst hk; simp [hli]
      · simp only [Array.setIfInBounds_setIfInBounds]; rw [Array.getElem_setIfInBounds (by simpa using h1)]; simp [hk]
  rw [e, hc] at hL
  simp only [Bool.not_true, Bool.false_or] at hL
  rw [List.all_eq_true] at hL
  simpa using hL j hj

theorem wpU_firstC {L : Array Bool} {i : Nat} {oi : Oper} {v : Value} (hi : ops[i]? = some oi) (hsel : ∀ (j : Nat) (o : Oper) cs b, ops[j]? = some o → o.op ≠ .select cs b)
    (hQ : ∀ c a w, Q (.panic c) (a.put oi.dst v) w → Q (.panic c) a w) (hL : (!(consB md ops (L.setIfInBounds i false)) || (Region.ready md ops (L.setIfInBounds i false)).all (· == i)) = true) :
    ∀ (fuel : Nat) (listed : Array Bool) (a : Act), consB md ops listed = true →
      (∀ j oj, ops[j]? = some oj → j ≠ i → listed.getD j true = false → (∀ e ∈ oj.after, Region.binds md e = true → e.on ≠ i) → oi.apart ops oj = true) →
      i ∈ Region.ready md ops listed → SteadyOp P ops S oi v a →
      wpU P md ops Q S L fuel (listed.setIfInBounds i true) (a.put oi.dst v) → wpU P md ops Q S L (fuel + 1) listed a := by
  have only := only_readyC (md := md) (ops := ops) hL
  intro fuel
  induction fuel with
  | zero =>
    intro listed a hc _ hr hy H
    refine Or.inr ⟨fun h => (by rw [h] at hr; cases hr), fun j hj w hS => ?_⟩
    obtain rfl := only listed hc hr H.1 j hj
    exact hy.wpOp hi hS fun w' hS' => ⟨hS', H⟩
  | succ fuel ih =>
    intro listed a hc hfree hr hy H
    refine Or.inr ⟨fun h => (by rw [h] at hr; cases hr), fun j hj w hS => ?_⟩
    by_cases hji : j = i
    · subst hji; exact hy.wpOp hi hS fun w' hS' => ⟨hS', H⟩
    · rcases H with H | H
      · exact absurd (only listed hc hr H.1 j hj) hji
      · have h1 := H.2 j (ready_mono hj hji) w hS
        obtain ⟨hjun, oj, hoj, hall⟩ := mem_ready.1 hj
        have hnot : ∀ e ∈ oj.after, Region.binds md e = true → e.on ≠ i := fun e he hb heq => by
          have h1 := hall e he hb
          have h0 := (mem_ready.1 hr).1
          rw [heq] at h1
          rcases Nat.lt_or_ge i listed.size with h' | h'
          · simp [h'] at h0 h1; rw [h0] at h1; cases h1
          · simp [Array.getElem?_eq_none h'] at h1
        have h2 := wpOp_putSt hoj (hfree j oj hoj hji hjun hnot) (fun cs b => hsel i oi cs b hi) (fun cs b => hsel j oj cs b hoj) hQ hy h1
        have hfree' : ∀ k ok, ops[k]? = some ok → k ≠ i → (listed.setIfInBounds j true).getD k true = false →
            (∀ e ∈ ok.after, Region.binds md e = true → e.on ≠ i) → oi.apart ops ok = true := fun k ok hk hki hun hno => by
          refine hfree k ok hk hki ?_ hno
          by_cases hjk : j = k
          · subst hjk; exact hjun
          · rw [getD_set_ne true hjk] at hun; exact hun
        refine wpOp_mono (fun a' w' h3 => ⟨h3.2.1, ih (listed.setIfInBounds j true) a' (consB_next hc hj) hfree' (ready_mono hr (Ne.symm hji)) h3.1 ?_⟩) h2
        rw [Array.setIfInBounds_comm _ _ hji]
        exact h3.2.2

theorem wpU_takeC {L : Array Bool} {i : Nat} {oi : Oper} {v : Value} {fuel : Nat} {listed : Array Bool} {a : Act} (hi : ops[i]? = some oi)
    (hs : Region.noSelect ops = true) (hf : Region.free md ops listed i = true) (hr : (Region.ready md ops listed).contains i = true) (hL : (!(consB md ops (L.setIfInBounds i false)) || (Region.ready md ops (L.setIfInBounds i false)).all (· == i)) = true) (hc : consB md ops listed = true)
    (hQ : ∀ c a w, Q (.panic c) (a.put oi.dst v) w → Q (.panic c) a w) (hw : Region.wanted oi (yielded ops a.tmps) = true) (hy : ∀ w, S w → Lands P S v ((execOp a.eval oi).run P w))
    (h : wpU P md ops Q S L fuel (listed.setIfInBounds i true) (a.put oi.dst v)) : wpU P md ops Q S L (fuel + 1) listed a :=
  wpU_firstC hi (Region.noSelect_spec hs) hQ hL fuel listed a hc (Region.free_spec hi hf) (by simpa using hr) ⟨hw, hy⟩ h

end
end Go.Proofs.Ytlheloogmgmjnaa
