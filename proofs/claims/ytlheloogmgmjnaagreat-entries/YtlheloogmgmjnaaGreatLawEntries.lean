import Derived.Test.YtlheloogmgmjnaaGreatLawPlay
namespace Go.Proofs.YtlheloogmgmjnaaGreat
open Go.RowKit

theorem newRM_foot (b i1 i2 i3 i4 p d r : Nat) : ∀ k ∈ (newRM b i1 i2 i3 i4 p d r).foot, k ∈ [b, i1, i2, i3, i4] := by
  intro k hk
  simp [RM.foot, RM.mut, RM.imm, newRM, Sl.blk, Sl.nil] at hk
  simp
  omega

theorem alike_new (b i1 i2 i3 i4 p d r bb gm : Nat) (mbs : List Nat) (ds : Sl) : Alike ⟨bb, r, 0, [], Sl.nil, [], Sl.nil, mbs, ⟨some ⟨gm, 0, none⟩, p, p⟩, ds⟩ (newRM b i1 i2 i3 i4 p d r) :=
  ⟨rfl, rfl, rfl, rfl, by intro t ht; simp [newRM] at ht, by intro x hx; simp [newRM] at hx; exact hx.2, by intro e he; simp [newRM] at he⟩

theorem two_new {w w1 w2 w3 : World} {bb gm : Nat} {mbs : List Nat} {ds : Sl} {b i1 i2 i3 i4 p d r x : Nat} (hp : PAt w1 ⟨bb, r, 0, [], Sl.nil, [], Sl.nil, mbs, ⟨some ⟨gm, 0, none⟩, p, p⟩, ds⟩) (h1 : ∀ k ∈ bb :: gm :: mbs, w.heap.size ≤ k) (hb1 : Below w.heap.size w w1)
    (hr : RefAt w2 (newRM b i1 i2 i3 i4 p d r)) (h2 : ∀ k ∈ [b, i1, i2, i3, i4], w1.heap.size ≤ k) (hb2 : Below w1.heap.size w1 w2) (hx : x = w2.heap.size) (hrow : RowAt w3 x 29 [.pointer (some ⟨bb, 0, none⟩), .pointer (some ⟨b, 0, none⟩)]) (hb3 : Below w2.heap.size w2 w3) :
    Two w w3 x ⟨bb, r, 0, [], Sl.nil, [], Sl.nil, mbs, ⟨some ⟨gm, 0, none⟩, p, p⟩, ds⟩ (newRM b i1 i2 i3 i4 p d r) := by
  have hf : ∀ k ∈ PM.foot ⟨bb, r, 0, [], Sl.nil, [], Sl.nil, mbs, ⟨some ⟨gm, 0, none⟩, p, p⟩, ds⟩, k ∈ bb :: gm :: mbs := by
    intro k hk
    simp [PM.foot, PM.mut, PM.imm, Sl.blk, Sl.nil] at hk
    simp
    exact hk
  have s1 := hb1.size
  have s2 := hb2.size
  refine ⟨hrow, (hp.below hb2).below hb3, hr.below hb3, ?_, ?_, ?_, fun k hk => h1 k (hf k hk), fun k hk => ?_, by omega, below_on (below_on hb1 hb2) hb3⟩
  · intro k hk hk2
    have := hp.foot_lt k hk
    have := h2 k (newRM_foot _ _ _ _ _ _ _ _ k hk2)
    omega
  · intro hk
    have := (hp.below hb2).foot_lt x hk
    omega
  · intro hk
    have := hr.foot_lt x hk
    omega
  · have := h2 k (newRM_foot _ _ _ _ _ _ _ _ k hk); omega

set_option maxHeartbeats 2000000 in
set_option maxRecDepth 100000 in
theorem begun_no (p d r : Int) (w : World) (h : ¬ sizeOk p d r) :
    Calls Tryz.prog 13 #[.int .i64 p, .int .i64 d, .int .i64 r] w fun e w' => e = .returned (.tuple #[.pointer (some ⟨w.heap.size, 0, none⟩), .bool true]) ∧ RowAt w' w.heap.size 29 [.pointer none, .pointer none] ∧ Below w.heap.size w w' := by
  have PN := hide (pNew_no p d r w h)
  have RN := hide (rNew_no p d r w h)
  clear h
  go_enter Tryz.func13, Tryz.ntmps13
  go_wp2_with (first | (go_at_call 38; refine PN.out.mono ?_; rintro e w' ⟨rfl, rfl⟩) | (go_at_call 41; refine RN.out.mono ?_; rintro e w' ⟨rfl, rfl⟩))
  go_ret2
  exact ⟨rfl, rowAt_alloc _ _ _, below_alloc1 _ _⟩

set_option maxHeartbeats 2000000 in
set_option maxRecDepth 100000 in
theorem begun_yes (p d r : Nat) (w : World) (h : sizeOk p d r) :
    Calls Tryz.prog 13 #[.int .i64 p, .int .i64 d, .int .i64 r] w fun e w' => ∃ x M R, e = .returned (.tuple #[.pointer (some ⟨x, 0, none⟩), .bool true]) ∧ Two w w' x M R ∧ Alike M R := by
  have PN := hide (pNew_yes p d r w h)
  have RN := hide (fun wx => rNew_yes p d r wx h)
  clear h
  go_enter Tryz.func13, Tryz.ntmps13
  go_wp2_with fail
  refine PN.out.mono ?_
  rintro e w1 ⟨bb, gm, mbs, ds, rfl, _, hp, h1, hb1⟩
  have HP := hide hp; have H1 := hide h1; have B1 := hide hb1
  clear hp h1 hb1 PN
  go_wp2_with fail
  refine (RN.out w1).mono ?_
  rintro e w2 ⟨b, i1, i2, i3, i4, rfl, hr, h2, hb2⟩
  have HR := hide hr; have H2 := hide h2; have B2 := hide hb2
  clear hr h2 hb2 RN
  go_wp2
  go_ret2
  exact ⟨_, _, _, rfl, two_new HP.out H1.out B1.out HR.out H2.out B2.out rfl (rowAt_alloc _ _ _) (below_alloc1 _ _), alike_new _ _ _ _ _ _ _ _ _ _ _ _⟩

theorem OpsAt.at {w : World} {ao : Option Addr} {xs : List OpV} (h : OpsAt w ao xs) {k : Nat} (hk : k < xs.length) : ∃ b o, ao = some ⟨b, o, none⟩ ∧ OpAt w b (o + k * 7) (xs.getD k OpV.zero) := by
  rcases h with h | ⟨b, o, rfl, hx⟩
  · subst h; simp at hk
  · exact ⟨b, o, rfl, hx k hk⟩

set_option maxHeartbeats 4000000 in
set_option maxRecDepth 100000 in
theorem entries_go (p d r : Nat) (ao : Option Addr) (cap : Nat) (xs : List OpV) (w : World) (hs : sizeOk p d r) (hx : OpsAt w ao xs) (hl : xs.length * 104 ≤ 140737488351232) :
    Calls Tryz.prog 3 #[.int .i64 p, .int .i64 d, .int .i64 r, .slice ao xs.length cap] w fun e w' => e = .returned (.bool true) ∧ Below w.heap.size w w' := by
  have BG := hide (begun_yes p d r w hs)
  have HX := hide hx
  clear hs hx
  go_enter Tryz.func3, Tryz.ntmps3
  go_wp2_with fail
  refine BG.out.mono ?_
  rintro e w1 ⟨x, M, R, rfl, hT, hA⟩
  have T1 := hide hT; have A1 := hide hA
  have x0 := hT.pair.cell' (i := 0) rfl
  clear hT hA BG
  go_wp2
  go_loopw [10, 11] (fun ok i wr => ∃ (k : Nat) (M : PM) (R : RM), k ≤ xs.length ∧ i = .int .i64 k ∧ ok = .bool true ∧ Hid (Two w wr x M R) ∧ Hid (Alike M R)) (fun _ i _ => xs.length - (intOf i).toNat)
  case atStart => exact ⟨0, M, R, Nat.zero_le _, rfl, rfl, T1, A1⟩
  case round =>
    obtain ⟨k, M', R', hk, rfl, rfl, T2, A2⟩ := hrel
    clear T1 A1 x0
    by_cases hlt : k < xs.length
    · obtain ⟨b, o, hao, hop⟩ := HX.out.at hlt
      have HO := hide hop
      have hop' := hop.below T2.out.below
      generalize xs.getD k OpV.zero = y at *
      have hl' : (k : Int) < (xs.length : Int) := by omega
      by_cases h3 : y.kind ≤ 3
      · have PL := hide (play_any w wr x M' R' T2.out A2.out y HO.out.tx HO.out.nl h3)
        obtain ⟨kind, a, bb, c, ⟨⟨ra, rn, rc⟩, ⟨wa, wn, wc⟩, ⟨ca, cn, cc⟩⟩, t⟩ := y
        obtain ⟨k0, k1, k2, k3, k4, k5, k6, _, _⟩ := hop'
        simp only [OpV.cells] at k0 k1 k2 k3 k4 k5 k6 PL h3
        subst hao
        clear hop HO T2 A2
        go_wp2_with fail
        refine PL.out.mono ?_
        rintro e w2 ⟨rfl, M2, R2, hT, hA⟩
        have T3 := hide hT; have A3 := hide hA
        clear hT hA PL
        go_wp2
        go_roundw
        case rel => exact ⟨k + 1, M2, R2, by omega, by go_num, rfl, T3, A3⟩
        case measure => simp [intOf]; omega
      · obtain ⟨kind, a, bb, c, hd, t⟩ := y
        have k0 := hop'.k0
        simp only at k0 h3
        subst hao
        clear hop HO hop'
        go_wp2
        go_roundw
        case rel => exact ⟨k + 1, M', R', by omega, by go_num, rfl, T2, A2⟩
        case measure => simp [intOf]; omega
    · have hl' : ¬ (k : Int) < (xs.length : Int) := by omega
      have PL := hide (play_show w wr x M' R' T2.out A2.out ⟨3, 0, 0, 0, ⟨⟨none, 0, 0⟩, ⟨none, 0, 0⟩, ⟨none, 0, 0⟩⟩, ⟨[], [], []⟩⟩ rfl)
      simp only [OpV.cells] at PL
      clear T2 A2
      go_wp2_with fail
      refine PL.out.mono ?_
      rintro e w2 ⟨rfl, M2, R2, hT, hA⟩
      have T3 := hide hT.below
      clear hT hA PL
      go_wp2
      go_ret
      exact ⟨rfl, T3.out⟩

set_option maxHeartbeats 4000000 in
set_option maxRecDepth 100000 in
theorem entries_no (p d r : Int) (ao : Option Addr) (n cap : Nat) (w : World) (hs : ¬ sizeOk p d r) :
    Calls Tryz.prog 3 #[.int .i64 p, .int .i64 d, .int .i64 r, .slice ao n cap] w fun e w' => e = .returned (.bool true) ∧ Below w.heap.size w w' := by
  have BG := hide (begun_no p d r w hs)
  clear hs
  go_enter Tryz.func3, Tryz.ntmps3
  go_wp2_with fail
  refine BG.out.mono ?_
  rintro e w1 ⟨rfl, hrow, hb⟩
  have HB := hide hb
  have x0 := hrow.cell' (i := 0) rfl
  clear hrow hb BG
  go_wp2
  go_ret
  exact ⟨rfl, HB.out⟩

theorem Entries_any (p d r : Int) (ao : Option Addr) (cap : Nat) (xs : List OpV) (w : World) (hx : OpsAt w ao xs) (hl : xs.length * 104 ≤ 140737488351232) :
    Calls Tryz.prog 3 #[.int .i64 p, .int .i64 d, .int .i64 r, .slice ao xs.length cap] w fun e w' => e = .returned (.bool true) ∧ Below w.heap.size w w' := by
  by_cases hs : sizeOk p d r
  · have h := hs
    obtain ⟨h1, h2, h3, h4, h5, h6⟩ := h
    obtain ⟨p', rfl⟩ : ∃ n : Nat, p = n := ⟨p.toNat, (Int.toNat_of_nonneg (by omega)).symm⟩
    obtain ⟨d', rfl⟩ : ∃ n : Nat, d = n := ⟨d.toNat, (Int.toNat_of_nonneg (by omega)).symm⟩
    obtain ⟨r', rfl⟩ : ∃ n : Nat, r = n := ⟨r.toNat, (Int.toNat_of_nonneg (by omega)).symm⟩
    exact entries_go p' d' r' ao cap xs w hs hx hl
  · exact entries_no p d r ao xs.length cap w hs

end Go.Proofs.YtlheloogmgmjnaaGreat
