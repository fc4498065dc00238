import Derived.Test.YtlheloogmgmjnaaGreatT35
namespace Go.Proofs.YtlheloogmgmjnaaGreat
open Go.RowKit

set_option maxHeartbeats 8000000 in
set_option maxRecDepth 100000 in
theorem plays_go (p d r : Nat) (ao : Option Addr) (cap : Nat) (xs : List OpV) (w : World) (hs : sizeOk p d r) (hx : OpsAt w ao xs) (hl : xs.length * 104 ≤ 140737488351232) :
    Calls Tryz.prog 15 #[.int .i64 p, .int .i64 d, .int .i64 r, .slice ao xs.length cap, .int .i64 6] w fun e w' => e = .returned (.bool true) ∧ Below w.heap.size w w' := by
  have BG := hide (sbegun_yes p d r w hs)
  have HX := hide hx
  clear hs hx
  go_enter Tryz.func15, Tryz.ntmps15
  go_wp2_with fail
  refine BG.out.mono ?_
  rintro e w1 ⟨x, M, R, rfl, hT, hA⟩
  have T1 := hide hT; have A1 := hide hA
  have x0 := hT.pair.cell' (i := 0) rfl
  clear hT hA BG
  go_wp2
  go_loopw [12, 13] (fun ok i wr => ∃ (k : Nat) (M : SM) (R : RM), k ≤ xs.length ∧ i = .int .i64 k ∧ ok = .bool true ∧ Hid (TwoS w wr x M R) ∧ Hid (Rel M R)) (fun _ i _ => xs.length - (intOf i).toNat)
  case atStart => exact ⟨0, M, R, Nat.zero_le _, rfl, rfl, T1, A1⟩
  case round =>
    obtain ⟨k, M', R', hk, rfl, rfl, T2, A2⟩ := hrel
    clear T1 A1 x0
    by_cases hlt : k < xs.length
    · obtain ⟨b, o, hao, hop⟩ := HX.out.at hlt
      have HO := hide hop
      have hop' := hop.below T2.out.below
      generalize xs.getD k OpV.zero = y at *
      have hl' : (k : Int) < (xs.length : Int) := by omega
      have x1 := T2.out.pair.cell' (i := 1) rfl
      have r0 := T2.out.r.row.cell' (i := 0) rfl
      have r1 := T2.out.r.row.cell' (i := 1) rfl
      have p8 := T2.out.r.parts8
      have d6 := T2.out.r.doers6
      have hwpd : IntKind.i64.wrap ((R'.parts : Int) + R'.doers) = (R'.parts : Int) + R'.doers := by rw [IntKind.wrap_i64]; omega
      have TS := hide (fun nq => T2.out.on (below_drewN (Below.refl _ _) nq))
      have hwk : IntKind.i64.wrap ((k : Int) + 1) = ((k + 1 : Nat) : Int) := by rw [IntKind.wrap_i64]; omega
      by_cases h6 : y.kind ≤ 6
      · by_cases h4 : y.kind = 4
        · by_cases hpd : y.a = (R'.parts : Int) + R'.doers
          · obtain ⟨kind, a, bb, c, ⟨⟨ra, rn, rc⟩, ⟨wa, wn, wc⟩, ⟨ca, cn, cc⟩⟩, t⟩ := y
            obtain ⟨k0, k1, _⟩ := hop'
            simp only at k0 k1 h6 h4 hpd
            subst h4 hao
            have d2 : (a != (R'.parts : Int) + R'.doers) = false := by simp [hpd]
            clear hop HO T2 h6 hpd
            go_wp2
            go_quiet (fail)
            go_wp2
            go_roundw
            case rel => exact ⟨k + 1, M', R', by omega, by go_num, rfl, hide (TS.out nq), A2⟩
            case measure => simp [intOf]; omega
          · have PL := hide (fun nq => splay_any w (wr.drewN nq) x M' R' (TS.out nq) A2.out y HO.out.tx HO.out.nl h6 (fun _ => hpd))
            obtain ⟨kind, a, bb, c, ⟨⟨ra, rn, rc⟩, ⟨wa, wn, wc⟩, ⟨ca, cn, cc⟩⟩, t⟩ := y
            obtain ⟨k0, k1, k2, k3, k4, k5, k6, _, _⟩ := hop'
            simp only [OpV.cells] at k0 k1 k2 k3 k4 k5 k6 PL h6 h4 hpd
            subst h4 hao
            have d2 : (a != (R'.parts : Int) + R'.doers) = true := by simp [hpd]
            clear hop HO T2 A2 TS h6 hpd
            go_wp2
            go_quiet (fail)
            go_wp2_with fail
            refine (PL.out nq).mono ?_
            rintro e w2 ⟨rfl, M2, R2, hT, hA⟩
            have T3 := hide hT; have A3 := hide hA
            clear hT hA PL
            go_wp2
            go_roundw
            case rel => exact ⟨k + 1, M2, R2, by omega, by go_num, rfl, T3, A3⟩
            case measure => simp [intOf]; omega
        · have PL := hide (fun nq => splay_any w (wr.drewN nq) x M' R' (TS.out nq) A2.out y HO.out.tx HO.out.nl h6 (fun q => absurd q h4))
          obtain ⟨kind, a, bb, c, ⟨⟨ra, rn, rc⟩, ⟨wa, wn, wc⟩, ⟨ca, cn, cc⟩⟩, t⟩ := y
          obtain ⟨k0, k1, k2, k3, k4, k5, k6, _, _⟩ := hop'
          simp only [OpV.cells] at k0 k1 k2 k3 k4 k5 k6 PL h6 h4
          subst hao
          have d0 : decide (kind ≤ 6) = true := by simpa using h6
          have d1 : (kind != 4) = true := by simp [h4]
          clear hop HO T2 A2 TS h4 h6
          go_wp2
          go_quiet (fail)
          go_wp2_with fail
          refine (PL.out nq).mono ?_
          rintro e w2 ⟨rfl, M2, R2, hT, hA⟩
          have T3 := hide hT; have A3 := hide hA
          clear hT hA PL
          go_wp2
          go_roundw
          case rel => exact ⟨k + 1, M2, R2, by omega, by go_num, rfl, T3, A3⟩
          case measure => simp [intOf]; omega
      · obtain ⟨kind, a, bb, c, hd, t⟩ := y
        have k0 := hop'.k0
        simp only at k0 h6
        subst hao
        have d0 : decide (kind ≤ 6) = false := by simpa using h6
        clear hop HO hop' T2 h6
        go_wp2
        go_quiet (fail)
        go_wp2
        go_roundw
        case rel => exact ⟨k + 1, M', R', by omega, by go_num, rfl, hide (TS.out nq), A2⟩
        case measure => simp [intOf]; omega
    · have hl' : ¬ (k : Int) < (xs.length : Int) := by omega
      have LO := hide (looked_any w wr x M' R' T2.out A2.out)
      clear T2 A2
      go_wp2_with fail
      refine LO.out.mono ?_
      rintro e w2 ⟨rfl, hb⟩
      have T3 := hide hb
      clear hb LO
      go_wp2
      go_ret
      exact ⟨rfl, T3.out⟩

set_option maxHeartbeats 4000000 in
set_option maxRecDepth 100000 in
theorem plays_no (p d r : Int) (ao : Option Addr) (n cap : Nat) (w : World) (hs : ¬ sizeOk p d r) :
    Calls Tryz.prog 15 #[.int .i64 p, .int .i64 d, .int .i64 r, .slice ao n cap, .int .i64 6] w fun e w' => e = .returned (.bool true) ∧ Below w.heap.size w w' := by
  have BG := hide (begun_no p d r w hs)
  clear hs
  go_enter Tryz.func15, Tryz.ntmps15
  go_wp2_with fail
  refine BG.out.mono ?_
  rintro e w1 ⟨rfl, hrow, hb⟩
  have HB := hide hb
  have x0 := hrow.cell' (i := 0) rfl
  clear hrow hb BG
  go_wp2
  go_ret
  exact ⟨rfl, HB.out⟩

theorem plays_any (p d r : Int) (ao : Option Addr) (cap : Nat) (xs : List OpV) (w : World) (hx : OpsAt w ao xs) (hl : xs.length * 104 ≤ 140737488351232) :
    Calls Tryz.prog 15 #[.int .i64 p, .int .i64 d, .int .i64 r, .slice ao xs.length cap, .int .i64 6] w fun e w' => e = .returned (.bool true) ∧ Below w.heap.size w w' := by
  by_cases hs : sizeOk p d r
  · have h := hs
    obtain ⟨h1, h2, h3, h4, h5, h6⟩ := h
    obtain ⟨p', rfl⟩ : ∃ n : Nat, p = n := ⟨p.toNat, (Int.toNat_of_nonneg (by omega)).symm⟩
    obtain ⟨d', rfl⟩ : ∃ n : Nat, d = n := ⟨d.toNat, (Int.toNat_of_nonneg (by omega)).symm⟩
    obtain ⟨r', rfl⟩ : ∃ n : Nat, r = n := ⟨r.toNat, (Int.toNat_of_nonneg (by omega)).symm⟩
    exact plays_go p' d' r' ao cap xs w hs hx hl
  · exact plays_no p d r ao xs.length cap w hs

set_option maxHeartbeats 1000000 in
theorem Steps_any (p d r : Int) (ao : Option Addr) (cap : Nat) (xs : List OpV) (w : World) (hx : OpsAt w ao xs) (hl : xs.length * 104 ≤ 140737488351232) :
    Calls Tryz.prog 4 #[.int .i64 p, .int .i64 d, .int .i64 r, .slice ao xs.length cap] w fun e w' => e = .returned (.bool true) ∧ Below w.heap.size w w' := by
  have PL := hide (plays_any p d r ao cap xs w hx hl)
  clear hx hl
  go_enter Tryz.func4, Tryz.ntmps4
  go_wp2_with fail
  refine PL.out.mono ?_
  rintro e w1 ⟨rfl, hb⟩
  have HB := hide hb
  clear hb PL
  go_wp2
  go_ret
  exact ⟨rfl, HB.out⟩

end Go.Proofs.YtlheloogmgmjnaaGreat
