import Derived.Test.YtlheloogmgmjnaaRows
import Derived.Test.YtlheloogmgmjnaaT34
import Derived.Carry
namespace Go.Proofs.Ytlheloogmgmjnaa
open Go.ChangeShapes Go.WideShapes Go.ChangeAt Go.RowKit

set_option maxRecDepth 100000 in
theorem bounded_lifted (os : Os) (started : os.Started) (H : Type) (enc : TypeId × Value → H) :
    ReturnsInHanded {} Try.checked os 4 .any (Rows.boundedSpec.pre6 enc Try.prog Try.f4 Rows.boundedRow.domain false) (Rows.boundedSpec.post enc Try.prog Try.f4 false true false false) := by
  refine returnsInHanded_of_change_sized (C := Try.checked) Try.own started (by kernel_rfl) Try.func4
    (ChangeSpec.witness6 (enc := enc) (C := Try.checked) false ⟨#[], #[.slice none 0 0, .int .i64 0, .int .i64 0, .slice none 0 0], []⟩ 8 (by kernel_rfl) (by kernel_rfl) (by kernel_rfl) (by kernel_rfl)) ?_
  intro W base args ds gs before hval0 hW _ _ _
  have hval : ∀ (j : Nat) t v, Try.f4.params[j]? = some t → args[j]? = some v → Value.okWide Try.prog W .any base t v := hval0
  have hW' := hW
  obtain ⟨p, q, hA0, hV, rfl, _, _⟩ := hW
  have hA : DataW.TrodAll enc Try.prog W 0 (fun _ => true) true Try.f4.params.toList args.toList ds p := hA0
  rw [Try.params4] at hA hval
  obtain ⟨v0, v1, v2, v3, d0, d1, d2, d3, p0, p1, p2, p3, rfl, rfl, rfl, h0, h1, h2, h3⟩ := trodAll_four hA
  obtain ⟨rfl, rfl⟩ := trodVars_none hV
  clear hA0 hval0
  simp only [List.append_nil] at hW'
  obtain ⟨ra, rl, rc, rfl⟩ := okWide_slice Try.underlying31 (hval 0 31 _ rfl rfl)
  obtain ⟨n1, rfl⟩ := okWide_int Try.underlying3 (hval 1 3 _ rfl rfl)
  obtain ⟨n2, rfl⟩ := okWide_int Try.underlying3 (hval 2 3 _ rfl rfl)
  obtain ⟨sa, sl, sc, rfl⟩ := okWide_slice Try.underlying22 (hval 3 22 _ rfl rfl)
  have hlt : ∀ x ∈ p0 ++ p1 ++ p2 ++ p3, x.block < W.heap.size := fun x hx => by simpa using hW'.lt x hx
  have h0k := h0
  have h1k := h1
  have h2k := h2
  have h3k := h3
  obtain ⟨f0, e0⟩ := h0
  obtain ⟨f1, e1⟩ := h1
  obtain ⟨f2, e2⟩ := h2
  obtain ⟨f3, e3⟩ := h3
  obtain ⟨a0, c0, rs, q0, hrs⟩ := open_rows_all e0
  obtain ⟨a3, c3, xs, q3, hxl, hxs, _⟩ := open_ints_all e3
  obtain ⟨rfl, rfl, rfl⟩ : ra = a0 ∧ rl = rs.length ∧ rc = c0 := by
    have e : [Value.slice ra rl rc] = [Value.slice a0 rs.length c0] := q0
    simpa using e
  obtain ⟨rfl, rfl, rfl⟩ : sa = a3 ∧ sl = xs.length ∧ sc = c3 := by
    have e : [Value.slice sa sl sc] = [Value.slice a3 xs.length c3] := q3
    simpa using e
  have hn1 : inI64 n1 := by
    obtain ⟨k, hk, _, hwf⟩ := DataW.trod_int Try.underlying3 e1
    have e : [Value.int .i64 n1] = [Value.int .i64 k] := hk
    simp only [List.cons.injEq, Value.int.injEq, true_and, and_true] at e
    rw [e]; exact inI64_of_wf hwf
  have hn2 : inI64 n2 := by
    obtain ⟨k, hk, _, hwf⟩ := DataW.trod_int Try.underlying3 e2
    have e : [Value.int .i64 n2] = [Value.int .i64 k] := hk
    simp only [List.cons.injEq, Value.int.injEq, true_and, and_true] at e
    rw [e]; exact inI64_of_wf hwf
  refine (Bounded_any ra rc rs n1 n2 hn1 hn2 sa sc xs W hrs hxs hxl).mono fun e W' ⟨he, hbw⟩ => ?_
  subst he
  have g0 : DataW.Trod enc Try.prog W' 0 (fun b => decide (b < W.heap.size)) true 31 (.slice ra rs.length rc) d0 p0 := Below.trod Try.laidOut (by kernel_rfl) (of_decide_eq_true (by kernel_rfl)) h0k hbw (fun x hx => hlt x (by simp [hx]))
  have g1 : DataW.Trod enc Try.prog W' 0 (fun b => decide (b < W.heap.size)) true 3 (.int .i64 n1) d1 p1 := Below.trod Try.laidOut (by kernel_rfl) (of_decide_eq_true (by kernel_rfl)) h1k hbw (fun x hx => hlt x (by simp [hx]))
  have g2 : DataW.Trod enc Try.prog W' 0 (fun b => decide (b < W.heap.size)) true 3 (.int .i64 n2) d2 p2 := Below.trod Try.laidOut (by kernel_rfl) (of_decide_eq_true (by kernel_rfl)) h2k hbw (fun x hx => hlt x (by simp [hx]))
  have g3 : DataW.Trod enc Try.prog W' 0 (fun b => decide (b < W.heap.size)) true 22 (.slice sa xs.length sc) d3 p3 := Below.trod Try.laidOut (by kernel_rfl) (of_decide_eq_true (by kernel_rfl)) h3k hbw (fun x hx => hlt x (by simp [hx]))
  refine ⟨_, rfl, _, _, _, [], p0 ++ p1 ++ p2 ++ p3, [], hW', ?_, ?_, rfl, hbw.frame _, fun h => by cases h⟩
  · exact trodAll_mk1 (shut_bool Try.underlying4 true)
  · have := trodAll_mk4 g0 g1 g2 g3
    rw [← List.append_assoc, ← List.append_assoc] at this
    exact this

theorem bounded_holds : Rows.BoundedSaid :=
  OpenClaim.holds_of_wide 4 Try.f4 rfl rfl rfl rfl rfl rfl rfl ⟨rfl, rfl, rfl, rfl, rfl⟩ rfl rfl rfl rfl rfl (by kernel_rfl) Try.func4 (by kernel_rfl)
    (of_decide_eq_true (by kernel_rfl)) (by unfold Func.isWrapper; first | (rw [if_pos (by decide +kernel)]; kernel_rfl) | (rw [if_neg (by decide +kernel)]; exact ⟨rfl, rfl⟩))
    (fun os started H enc _ => bounded_lifted os started H enc)

end Go.Proofs.Ytlheloogmgmjnaa
