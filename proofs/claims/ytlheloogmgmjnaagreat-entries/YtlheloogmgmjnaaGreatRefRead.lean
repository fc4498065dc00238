import Derived.Test.YtlheloogmgmjnaaGreatProg
import Derived.Test.YtlheloogmgmjnaaGreatRefMem
namespace Go.Proofs.YtlheloogmgmjnaaGreat
open Go.RowKit

theorem nats_length (xs : List Nat) : (nats xs).length = xs.length := by simp [nats]
theorem nats_getD (xs : List Nat) (k : Nat) : (nats xs).getD k 0 = ((xs.getD k 0 : Nat) : Int) := by
  simp [nats, List.getD]; cases xs[k]? <;> simp

theorem flat10 (l : List Tsk) : ∀ i, i < l.length → ∀ j, j < 10 → (l.flatMap Tsk.row)[i * 10 + j]? = ((l[i]?).map Tsk.row).bind (fun r => r[j]?) := by
  induction l with
  | nil => intro i hi; simp at hi
  | cons x r ih =>
    intro i hi j hj
    rw [List.flatMap_cons]
    cases i with
    | zero =>
      rw [List.getElem?_append_left (by simp [Tsk.row]; omega)]
      simp
    | succ i =>
      have := ih i (by simpa using hi) j hj
      rw [List.getElem?_append_right (by simp [Tsk.row]; omega), show (i + 1) * 10 + j - (Tsk.row x).length = i * 10 + j by simp [Tsk.row]; omega, this]
      simp

/-- The cells of the i-th transaction. -/
theorem RefAt.task {w : World} {M : RM} (h : RefAt w M) {i : Nat} (hi : i < M.tasks.length) : ∃ g, M.tkS.a = some ⟨g, 0, none⟩ ∧ g < w.heap.size ∧ ∀ j v, (M.tasks[i].row)[j]? = some v → w.cell? ⟨g, i * 10 + j, none⟩ = some v := by
  have h0 : (M.tasks.flatMap Tsk.row)[i * 10 + 0]? = some (.slice M.tasks[i].h.r.a M.tasks[i].h.r.n M.tasks[i].h.r.c) := by
    rw [flat10 _ i hi 0 (by omega)]; simp [hi, Tsk.row]
  obtain ⟨g, ha, hc⟩ := h.tk.cell h0
  refine ⟨g, ha, lt_of_cell hc, fun j v hv => ?_⟩
  have hj : j < 10 := by have := (List.getElem?_eq_some_iff.1 hv).1; simpa [Tsk.row] using this
  obtain ⟨g', ha', hc'⟩ := h.tk.cell (i := i * 10 + j) (v := v) (by rw [flat10 _ i hi j hj]; simp [hi, hv])
  rw [ha] at ha'; simp at ha'; subst ha'
  exact hc'

def RM.closed (M : RM) : Nat := M.ends.getD (M.ends.length - 1) 0

set_option maxHeartbeats 400000 in
set_option maxRecDepth 100000 in
theorem rclosed_any (M : RM) (w : World) (h : RefAt w M) :
    Calls Tryz.prog 74 #[.pointer (some ⟨M.b, 0, none⟩)] w fun e w' => e = .returned (.int .i64 M.closed) ∧ ∃ n, w' = w.drewN n := by
  have c5 := h.row.cell' (i := 5) (v := .slice M.enS.a M.enS.n M.enS.c) rfl
  have hI := h.en.ints
  have hn := h.enn
  have ht := h.txns
  have ht1 := h.ends1
  have hlt := h.row.lt
  clear h
  rw [hn] at c5
  by_cases h0 : M.ends.length = 0
  · have hc : M.closed = 0 := by simp [RM.closed, List.eq_nil_of_length_eq_zero h0]
    rw [hc]
    have h0' : ((M.ends.length : Int) == 0) = true := by rw [beq_iff_eq]; omega
    clear hI hn h0 ht ht1
    generalize M.ends.length = n at *
    go_enter Tryz.func74, Tryz.ntmps74
    go_wp2
    go_ret
    exact ⟨rfl, 0, rfl⟩
  · have h0' : ((M.ends.length : Int) == 0) = false := by rw [beq_eq_false_iff_ne]; omega
    obtain ⟨b, o, hb, hc, _⟩ := hI.at (k := M.ends.length - 1) (by rw [nats_length]; omega)
    replace hc := hc (M.ends.length - 1) (by rw [nats_length]; omega)
    rw [nats_getD] at hc
    rw [hb] at c5
    have HC := hide (show M.closed = M.ends.getD (M.ends.length - 1) 0 from rfl)
    generalize M.ends.getD (M.ends.length - 1) 0 = y at *
    obtain ⟨n, hn'⟩ : ∃ n, M.ends.length = n + 1 := ⟨M.ends.length - 1, by omega⟩
    rw [hn'] at c5 h0' hc ht1
    simp only [Nat.add_sub_cancel] at hc
    clear hn' hn hI h0 hb
    go_enter Tryz.func74, Tryz.ntmps74
    go_wp2
    go_quiet (fail)
    go_wp2
    go_ret
    exact ⟨ret_int (by rw [HC.out]), _, rfl⟩

/-- Up to which all have ended. -/
def RM.doneTo (M : RM) (k : Nat) : Bool := (M.tasks.take k).all (·.ended)
def RM.done (M : RM) : Nat := (M.tasks.takeWhile (·.ended)).length

theorem takeWhile_at {α : Type} (l : List α) (p : α → Bool) {k : Nat} (hk : k < l.length) (ha : (l.take k).all p = true) (hn : p l[k] = false) : (l.takeWhile p).length = k := by
  induction l generalizing k with
  | nil => simp at hk
  | cons x r ih =>
    cases k with
    | zero => simp at hn; simp [hn]
    | succ k =>
      simp at ha
      have := ih (k := k) (by simpa using hk) (by simp; exact ha.2) (by simpa using hn)
      simp [ha.1, this]

theorem takeWhile_all {α : Type} (l : List α) (p : α → Bool) (ha : l.all p = true) : (l.takeWhile p).length = l.length := by
  induction l with
  | nil => rfl
  | cons x r ih => simp at ha; simp [ha.1]; exact ih (by simp; exact ha.2)

theorem all_take_succ {α : Type} (l : List α) (p : α → Bool) {k : Nat} (hk : k < l.length) : (l.take (k + 1)).all p = ((l.take k).all p && p l[k]) := by
  rw [List.take_succ_eq_append_getElem hk, List.all_append]; simp

set_option maxHeartbeats 400000 in
set_option maxRecDepth 100000 in
theorem rdone_any (M : RM) (w : World) (h : RefAt w M) :
    Calls Tryz.prog 76 #[.pointer (some ⟨M.b, 0, none⟩)] w fun e w' => e = .returned (.int .i64 M.done) ∧ w' = w := by
  have c3 := h.row.cell' (i := 3) (v := .slice M.tkS.a M.tkS.n M.tkS.c) rfl
  rw [h.tkn] at c3
  have ht := h.txns
  have hlt := h.row.lt
  have H := hide h
  clear h
  go_enter Tryz.func76, Tryz.ntmps76
  go_wp2
  go_loop [3] (fun t => ∃ k : Nat, k ≤ M.tasks.length ∧ t = .int .i64 k ∧ (M.tasks.take k).all (·.ended) = true) (fun t => M.tasks.length - (intOf t).toNat)
  case atStart => exact ⟨0, Nat.zero_le _, rfl, by simp⟩
  case round =>
    obtain ⟨k, hk, rfl, hn⟩ := hrel
    by_cases hlt2 : k < M.tasks.length
    · obtain ⟨g, hg, hgl, hc⟩ := H.out.task hlt2
      have he := hc 8 (.bool M.tasks[k].ended) rfl
      have hs := all_take_succ M.tasks (·.ended) hlt2
      have hw := takeWhile_at M.tasks (·.ended) hlt2 hn
      rw [hn] at hs
      rw [hg] at c3
      generalize hq : M.tasks[k].ended = q at *
      have HS := hide hs; have HW := hide hw
      clear hs hw hn hc hq hg
      cases q
      · go_wp2
        go_ret
        exact ⟨ret_int (by rw [RM.done, HW.out (by trivial)]), rfl⟩
      · go_wp2
        go_round
        case rel => exact ⟨k + 1, by omega, by go_num, by rw [HS.out]; rfl⟩
        case measure => simp [intOf]; omega
    · have hw := hide (takeWhile_all M.tasks (·.ended) (by rw [List.take_of_length_le (by omega)] at hn; exact hn))
      have hkk : k = M.tasks.length := by omega
      subst hkk
      clear hn
      go_wp2
      go_ret
      exact ⟨ret_int (by rw [RM.done, hw.out]), rfl⟩

/-- How many of them have not gone. -/
def stay (l : List Bool) : Nat := l.countP (fun b => !b)
def RM.used (M : RM) : Nat := (M.tasks.map fun t => stay t.gone).sum

theorem stay_succ (l : List Bool) {k : Nat} (hk : k < l.length) : stay (l.take (k + 1)) = stay (l.take k) + (if l.getD k false then 0 else 1) := by
  unfold stay
  rw [List.take_succ_eq_append_getElem hk, List.countP_append]
  simp [List.getD, hk, List.countP_cons]
  cases l[k] <;> rfl

theorem stay_le (l : List Bool) : stay l ≤ l.length := List.countP_le_length

theorem sum_take_succ {α : Type} (l : List α) (f : α → Nat) {k : Nat} (hk : k < l.length) : ((l.take (k + 1)).map f).sum = ((l.take k).map f).sum + f l[k] := by
  rw [List.take_succ_eq_append_getElem hk, List.map_append, List.sum_append]; simp only [List.map_cons, List.map_nil, List.sum_cons, List.sum_nil, Nat.add_zero]

theorem checkN_sound (t : Tx) (h : checkN t = 0) : t.c.length ≤ 30 ∧ t.r.length ≤ 6 ∧ t.w.length ≤ 6 ∧ (∀ n ∈ t.r, 0 ≤ n ∧ n < 24) ∧ (∀ n ∈ t.w, 0 ≤ n ∧ n < 24) ∧ (∀ x ∈ t.c, soundB x t.r.length t.w.length = true) := by
  unfold checkN at h
  by_cases h1 : longB t = true
  · simp [h1] at h
  simp only [h1] at h
  by_cases h2 : ((t.r.any fun n => !bel n 24) || (t.w.any fun n => !bel n 24)) = true
  · simp [h2] at h
  simp only [h2] at h
  by_cases h3 : (twiceTo t.r t.r.length || twiceTo t.w t.w.length) = true
  · simp [h3] at h
  simp only [h3] at h
  by_cases h4 : unsoundB t = true
  · simp [h4] at h
  simp [longB] at h1
  simp [bel] at h2
  simp [unsoundB] at h4
  exact ⟨by omega, by omega, by omega, h2.1, h2.2, h4⟩

set_option maxHeartbeats 1000000 in
set_option maxRecDepth 100000 in
theorem rused_any (M : RM) (w : World) (h : RefAt w M) :
    Calls Tryz.prog 78 #[.pointer (some ⟨M.b, 0, none⟩)] w fun e w' => e = .returned (.int .i64 M.used) ∧ w' = w := by
  have c3 := h.row.cell' (i := 3) (v := .slice M.tkS.a M.tkS.n M.tkS.c) rfl
  rw [h.tkn] at c3
  have ht := h.txns
  have hlt := h.row.lt
  have H := hide h
  clear h
  go_enter Tryz.func78, Tryz.ntmps78
  go_wp2
  go_loop [3, 4] (fun n t => ∃ k : Nat, k ≤ M.tasks.length ∧ t = .int .i64 k ∧ n = .int .i64 (((M.tasks.take k).map fun t => stay t.gone).sum : Nat) ∧ ((M.tasks.take k).map fun t => stay t.gone).sum ≤ k * 6) (fun _ t => M.tasks.length - (intOf t).toNat)
  case atStart => exact ⟨0, Nat.zero_le _, rfl, rfl, by simp⟩
  case round =>
    obtain ⟨k, hk, rfl, rfl, hle⟩ := hrel
    by_cases hlt2 : k < M.tasks.length
    · obtain ⟨g, hg, hgl, hc⟩ := H.out.task hlt2
      have hT := H.out.tsk _ (List.getElem_mem hlt2)
      have he := hc 9 (.slice M.tasks[k].goneS.a M.tasks[k].goneS.n M.tasks[k].goneS.c) rfl
      have hs := sum_take_succ M.tasks (fun t => stay t.gone) hlt2
      rw [hT.gonen] at he
      rw [hg] at c3
      have hB := hT.gone.bools
      have hw6 := (checkN_sound _ hT.chk).2.2.1
      have hgl6 := hT.gonel
      clear hT hc hg
      generalize M.tasks[k] = T at *
      generalize ((M.tasks.take k).map fun t => stay t.gone).sum = n at *
      have HS := hide hs
      have HB := hide hB
      clear hs hB
      go_wp2
      go_loop [3, 5] (fun m t => ∃ j : Nat, j ≤ T.gone.length ∧ t = .int .i64 j ∧ m = .int .i64 (n + stay (T.gone.take j) : Nat)) (fun _ t => T.gone.length - (intOf t).toNat)
      case atStart => exact ⟨0, Nat.zero_le _, rfl, by simp [stay]⟩
      case round =>
        obtain ⟨j, hj, rfl, rfl⟩ := hrel
        have hst := stay_le (T.gone.take j)
        simp only [List.length_take] at hst
        by_cases hlj : j < T.gone.length
        · obtain ⟨b, o, hb, hcb, _⟩ := HB.out.at hlj
          have hbj := hcb j hlj
          have hss := stay_succ T.gone hlj
          rw [hb] at he
          generalize stay (T.gone.take j) = q at *
          have HSS := hide hss
          clear hss hcb
          generalize T.gone.getD j false = y at *
          cases y
          · go_wp2
            go_round
            case rel => exact ⟨j + 1, by omega, by go_num, by rw [HSS.out]; go_num⟩
            case measure => simp [intOf]; omega
          · go_wp2
            go_round
            case rel => exact ⟨j + 1, by omega, by go_num, by rw [HSS.out]; go_num⟩
            case measure => simp [intOf]; omega
        · have hz := stay_le T.gone
          have ez : T.gone.take j = T.gone := List.take_of_length_le (by omega)
          rw [ez] at hst ⊢
          generalize stay T.gone = z at *
          go_wp2
          go_round
          case rel => exact ⟨k + 1, by omega, by go_num, by rw [HS.out], by rw [HS.out]; omega⟩
          case measure => simp [intOf]; omega
    · have hkk : k = M.tasks.length := by omega
      subst hkk
      have hu : M.used = ((M.tasks.take M.tasks.length).map fun t => stay t.gone).sum := by rw [List.take_length]; rfl
      have HU := hide hu
      clear hu
      generalize ((M.tasks.take M.tasks.length).map fun t => stay t.gone).sum = n at *
      go_wp2
      go_ret
      exact ⟨ret_int (by rw [HU.out]), rfl⟩

def RM.ready (M : RM) : Nat := M.ends.countP fun e => M.dealt.all fun d => decide (e ≤ d)

theorem countP_take_succ {α : Type} (l : List α) (p : α → Bool) {k : Nat} (hk : k < l.length) : (l.take (k + 1)).countP p = (l.take k).countP p + (if p l[k] then 1 else 0) := by
  rw [List.take_succ_eq_append_getElem hk, List.countP_append]; simp [List.countP_cons]

theorem nat_get {xs : List Nat} {k : Nat} (hk : k < xs.length) : xs.getD k 0 = xs[k] := by simp [List.getD, hk]

set_option maxHeartbeats 1000000 in
set_option maxRecDepth 100000 in
theorem rready_any (M : RM) (w : World) (h : RefAt w M) :
    Calls Tryz.prog 75 #[.pointer (some ⟨M.b, 0, none⟩)] w fun e w' => e = .returned (.int .i64 M.ready) ∧ ∃ n, w' = w.drewN n := by
  have c0 := h.row.cell' (i := 0) (v := .int .i64 M.parts) rfl
  have c5 := h.row.cell' (i := 5) (v := .slice M.enS.a M.enS.n M.enS.c) rfl
  have c6 := h.row.cell' (i := 6) (v := .slice M.deS.a M.deS.n M.deS.c) rfl
  rw [h.enn] at c5
  rw [h.den, h.del] at c6
  have ht := h.txns
  have ht1 := h.ends1
  have hlt := h.row.lt
  have hp8 := h.parts8
  have del := hide h.del
  have HE := hide h.en.ints
  have HD := hide h.de.ints
  have HEL := hide (fun k (hk : k < M.ends.length) => h.endsle _ (List.getElem_mem hk))
  clear h
  go_enter Tryz.func75, Tryz.ntmps75
  go_wp2
  go_loopw [3, 4] (fun n t wr => ∃ k : Nat, k ≤ M.ends.length ∧ t = .int .i64 k ∧ n = .int .i64 ((M.ends.take k).countP (fun e => M.dealt.all fun d => decide (e ≤ d)) : Nat) ∧ (M.ends.take k).countP (fun e => M.dealt.all fun d => decide (e ≤ d)) ≤ k ∧ ∃ q, wr = w.drewN q) (fun _ t _ => M.ends.length - (intOf t).toNat)
  case atStart => exact ⟨0, Nat.zero_le _, rfl, rfl, by simp, 0, rfl⟩
  case round =>
    obtain ⟨k, hk, rfl, rfl, hle, q, rfl⟩ := hrel
    by_cases hlt2 : k < M.ends.length
    · obtain ⟨b, o, hb, hcb, _⟩ := HE.out.at (k := k) (by rw [nats_length]; exact hlt2)
      have hck := hcb k (by rw [nats_length]; exact hlt2)
      rw [nats_getD, nat_get hlt2] at hck
      have hs := countP_take_succ M.ends (fun e => M.dealt.all fun d => decide (e ≤ d)) hlt2
      rw [hb] at c5
      generalize M.ends[k] = E at *
      generalize (M.ends.take k).countP (fun e => M.dealt.all fun d => decide (e ≤ d)) = n at *
      have HS := hide hs
      clear hs hcb hb HEL
      go_wp2
      go_loopw [5, 6] (fun a t wr => ∃ j : Nat, j ≤ M.parts ∧ t = .int .i64 j ∧ a = .bool ((M.dealt.take j).all fun d => decide (E ≤ d)) ∧ ∃ q, wr = w.drewN q) (fun _ t _ => M.parts - (intOf t).toNat)
      case atStart => exact ⟨0, Nat.zero_le _, rfl, by simp, q, rfl⟩
      case round =>
        obtain ⟨j, hj, rfl, rfl, q', rfl⟩ := hrel
        by_cases hlj : j < M.parts
        · have hld : j < M.dealt.length := by rw [del.out]; exact hlj
          obtain ⟨b2, o2, hb2, hcb2, _⟩ := HD.out.at (k := j) (by rw [nats_length]; exact hld)
          have hcj := hcb2 j (by rw [nats_length]; exact hld)
          rw [nats_getD, nat_get hld] at hcj
          rw [hb2] at c6
          have hss := all_take_succ M.dealt (fun d => decide (E ≤ d)) hld
          generalize M.dealt[j] = d at *
          have HSS := hide hss
          clear hss hcb2 hb2 HE HD
          generalize ((M.dealt.take j).all fun d => decide (E ≤ d)) = a at *
          cases a
          · go_wp2
            go_quiet (fail)
            go_wp2
            go_roundw
            case rel => exact ⟨j + 1, by omega, by go_num, by rw [HSS.out]; rfl, _, rfl⟩
            case measure => simp [intOf]; omega
          · go_wp2
            go_quiet (fail)
            go_wp2
            go_roundw
            case rel => exact ⟨j + 1, by omega, by go_num, by rw [HSS.out]; simp, _, rfl⟩
            case measure => simp [intOf]; omega
        · have ez : M.dealt.take j = M.dealt := List.take_of_length_le (by rw [del.out]; omega)
          rw [ez]
          clear HE HD
          generalize (M.dealt.all fun d => decide (E ≤ d)) = a at *
          cases a
          · go_wp2
            go_roundw
            case rel => exact ⟨k + 1, by omega, by go_num, by rw [HS.out]; rfl, by rw [HS.out]; simp; omega, _, rfl⟩
            case measure => simp [intOf]; omega
          · go_wp2
            go_roundw
            case rel => exact ⟨k + 1, by omega, by go_num, by rw [HS.out]; go_num, by rw [HS.out]; simp; omega, _, rfl⟩
            case measure => simp [intOf]; omega
    · have hkk : k = M.ends.length := by omega
      subst hkk
      have hu : M.ready = (M.ends.take M.ends.length).countP (fun e => M.dealt.all fun d => decide (e ≤ d)) := by rw [List.take_length]; rfl
      have HU := hide hu
      clear hu
      generalize (M.ends.take M.ends.length).countP (fun e => M.dealt.all fun d => decide (e ≤ d)) = n at *
      go_wp2
      go_ret
      exact ⟨ret_int (by rw [HU.out]), _, rfl⟩

/-- The last end that is not beyond d. -/
def markOf (d : Nat) (ends : List Nat) : Nat := ends.foldl (fun m e => if e ≤ d then e else m) 0
def RM.mark (M : RM) : Nat := markOf M.done M.ends

theorem markOf_succ (d : Nat) (l : List Nat) {k : Nat} (hk : k < l.length) : markOf d (l.take (k + 1)) = if l[k] ≤ d then l[k] else markOf d (l.take k) := by
  unfold markOf; rw [List.take_succ_eq_append_getElem hk, List.foldl_append]; rfl

set_option maxHeartbeats 1000000 in
set_option maxRecDepth 100000 in
theorem rmark_any (M : RM) (w : World) (h : RefAt w M) :
    Calls Tryz.prog 77 #[.pointer (some ⟨M.b, 0, none⟩)] w fun e w' => e = .returned (.int .i64 M.mark) ∧ w' = w := by
  have c5 := h.row.cell' (i := 5) (v := .slice M.enS.a M.enS.n M.enS.c) rfl
  rw [h.enn] at c5
  have ht := h.txns
  have ht1 := h.ends1
  have hlt := h.row.lt
  have HE := hide h.en.ints
  have HD := hide (rdone_any M w h)
  have HM := hide (show M.mark = markOf M.done M.ends from rfl)
  clear h
  generalize M.done = d at *
  go_enter Tryz.func77, Tryz.ntmps77
  go_wp2_with fail
  refine HD.out.mono ?_
  rintro e w' ⟨rfl, rfl⟩
  go_wp2
  go_loop [4, 5] (fun m t => ∃ k : Nat, k ≤ M.ends.length ∧ t = .int .i64 k ∧ m = .int .i64 (markOf d (M.ends.take k) : Nat)) (fun _ t => M.ends.length - (intOf t).toNat)
  case atStart => exact ⟨0, Nat.zero_le _, rfl, rfl⟩
  case round =>
    obtain ⟨k, hk, rfl, rfl⟩ := hrel
    by_cases hlt2 : k < M.ends.length
    · obtain ⟨b, o, hb, hcb, _⟩ := HE.out.at (k := k) (by rw [nats_length]; exact hlt2)
      have hck := hcb k (by rw [nats_length]; exact hlt2)
      rw [nats_getD, nat_get hlt2] at hck
      have hs := markOf_succ d M.ends hlt2
      rw [hb] at c5
      generalize M.ends[k] = E at *
      generalize markOf d (M.ends.take k) = m at *
      have HS := hide hs
      clear hs hcb hb HE
      by_cases hEd : (E : Int) ≤ (d : Int)
      · go_wp2
        go_round
        case rel => exact ⟨k + 1, by omega, by go_num, by rw [HS.out, if_pos (by omega)]⟩
        case measure => simp [intOf]; omega
      · go_wp2
        go_round
        case rel => exact ⟨k + 1, by omega, by go_num, by rw [HS.out, if_neg (by omega)]⟩
        case measure => simp [intOf]; omega
    · have ez : M.ends.take k = M.ends := List.take_of_length_le (by omega)
      rw [ez]
      clear HE
      generalize markOf d M.ends = m at *
      go_wp2
      go_ret
      exact ⟨ret_int (by rw [HM.out]), rfl⟩

end Go.Proofs.YtlheloogmgmjnaaGreat
