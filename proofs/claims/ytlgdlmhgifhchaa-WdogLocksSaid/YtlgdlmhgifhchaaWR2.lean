/- The document's own answers of layer 8: what is left, ticks. -/
import Derived.Test.YtlgdlmhgifhchaaWR
import Derived.Deep.Cut
namespace Go.Proofs.Ytlgdlmhgifhchaa.B
set_option linter.unusedVariables false
set_option linter.unusedSimpArgs false
open Go.ChangeShapes Go.WideShapes Go.RowKit Go.Sort
theorem vLeft (t : Wd) (w : World) (h : t.ok) : Calls Try.prog 26 #[.agg (vl t).toArray] w fun e w' => e = .returned (.int .u64 t.left) ∧ Below w.heap.size w w' := by
  have hB := trA (tr0 w) (oV t)
  have X : VAt (w.alloc (oV t)) w.heap.size t := blk_new w (oV t)
  have hrun := h.run
  obtain ⟨c0, c1, t0, t1, s0, s1, _, win, fa, idle⟩ := h
  have x0 := X.c0
  have x4 := X.c4
  have x5 := X.c5
  have x6 := X.c6
  cases hen : t.en
  · rw [hen] at x0
    clear hrun win fa idle
    go_enter Try.func26, Try.ntmps26
    go_upto_region 1 with (fail)
    rw [oV_eq]
    generalize w.alloc (oV t) = W at *
    go_wp2_with fail
    go_ret
    exact ⟨ret_int (by unfold Wd.left; rw [if_neg (by rw [hen]; simp)]), hB⟩
  · rw [hen] at x0
    have hr := hrun hen
    by_cases hf : t.fa = 0
    · have q0 : (t.fa != 0) = false := by simp [hf]
      have hlt := hr hf
      clear hrun win fa idle hr
      go_enter Try.func26, Try.ntmps26
      go_upto_region 1 with (fail)
      rw [oV_eq]
      generalize w.alloc (oV t) = W at *
      go_wp2_with fail
      go_ret
      exact ⟨ret_int (by unfold Wd.left; rw [if_pos ⟨hen, hf⟩]), hB⟩
    · have q0 : (t.fa != 0) = true := by simp [hf]
      clear hrun win fa idle hr
      go_enter Try.func26, Try.ntmps26
      go_upto_region 1 with (fail)
      rw [oV_eq]
      generalize w.alloc (oV t) = W at *
      go_wp2_with fail
      go_ret
      exact ⟨ret_int (by unfold Wd.left; rw [if_neg (fun e => hf e.2)]), hB⟩
theorem wrap64_over (x : Int) (h0 : 18446744073709551616 ≤ x) (h1 : x < 36893488147419103232) : IntKind.u64.wrap x = x - 18446744073709551616 := by
  simp [IntKind.wrap, IntKind.bits, IntKind.signed]; omega
set_option maxHeartbeats 1600000 in
theorem vTick (t : Wd) (n : Int) (w : World) (h : t.ok) (n0 : 0 ≤ n) (n1 : n < 18446744073709551616) :
    Calls Try.prog 23 #[.agg (vl t).toArray, .int .u64 n] w fun e w' => e = .returned (.tuple #[.agg (vl (t.tick n)).toArray, .int .u64 (t.ran n)]) ∧ Below w.heap.size w w' := by
  have hB := trA (trA (tr0 w) (oV t)) zV
  have X : VAt ((w.alloc (oV t)).alloc zV) w.heap.size t := b2_0 w (oV t) zV
  have Y : VAt ((w.alloc (oV t)).alloc zV) (w.heap.size + 1) wz := b2_1 w (oV t) zV
  have HL := Lib.hid (fun w' => vLeft t w' h)
  have hrun := h.run
  obtain ⟨c0, c1, t0, t1, s0, s1, _, win, fa, idle⟩ := h
  have x0 := X.c0
  have x6 := X.c6
  clear win fa idle
  by_cases hf : t.fa = 0
  · have q0 : (t.fa != 0) = false := by simp [hf]
    cases hen : t.en
    · rw [hen] at x0
      have e1 : t.tick n = t := by unfold Wd.tick; rw [if_neg (by rw [hen]; simp)]
      have e2 : t.ran n = n := by unfold Wd.ran; rw [if_neg (by simp [hf]), if_neg (by rw [hen]; simp)]
      rw [e1, e2]
      clear hrun HL e1 e2
      go_enter Try.func23, Try.ntmps23
      go_upto_region 1 with (fail)
      rw [oV_eq, zV_eq]
      generalize ((w.alloc (oV t)).alloc zV) = W at *
      have Z := VAt.row Y t
      have hB2 := below_setRow hB (vl t).toArray (g := w.heap.size + 1) (by omega)
      go_wp2_with (first | (refine loadV rfl (.tmp 2) rfl rfl X ?_) | (refine storeV rfl (.tmp 4) (.tmp 14) rfl rfl (t := t) rfl Y ?_))
      refine bodyPost_ret (resV2 rfl _ _ _ rfl rfl Z) rfl ⟨rfl, hB2⟩
    · rw [hen] at x0
      have hlt := hrun hen hf
      have hleft : t.left = t.tot - t.si := by unfold Wd.left; rw [if_pos ⟨hen, hf⟩]
      rw [hleft] at HL
      have x4 := X.c4
      have x5 := X.c5
      have f5 := X.free 5
      have f6 := X.free 6
      clear hrun hleft
      by_cases hge : t.tot ≤ t.si + n
      · have e1 : t.tick n = { t with si := t.tot, fa := 2 } := by unfold Wd.tick; rw [if_pos ⟨hen, hf⟩, if_pos hge]
        have e2 : t.ran n = t.tot - t.si := by unfold Wd.ran; rw [if_neg (by simp [hf]), if_pos hen, if_pos hge]
        rw [e1, e2]
        clear e1 e2 hen hf
        by_cases hov : t.si + n < 18446744073709551616
        all_goals
          try have hw := wrap64_over (t.si + n) (by omega) (by omega)
          try have hw2 : t.si + n - 18446744073709551616 < n := by omega
          try have hw3 : ¬ t.tot ≤ t.si + n - 18446744073709551616 := by omega
          go_enter Try.func23, Try.ntmps23
          go_upto_region 1 with (fail)
          rw [oV_eq, zV_eq]
          generalize ((w.alloc (oV t)).alloc zV) = W at *
          go_wp2_with (refine loadV rfl (.tmp 2) rfl rfl X ?_)
          refine (HL.out _).mono ?_
          rintro e W1 ⟨rfl, hb⟩
          have X1 := X.below hb
          have Y1 := Y.below hb
          have hB1 := tr hB hb
          clear X Y hB hb HL x0 x4 x5 x6 f5 f6
          have x4 := X1.c4
          have x5 := X1.c5
          have x6 := X1.c6
          have f5 := X1.free 5
          have f6 := X1.free 6
          have X2 : VAt _ _ { t with si := t.tot, fa := 2 } := (X1.s5 t.tot).s6 2
          have Y2 := (Y1.other w.heap.size 5 (.int .u64 t.tot) (by omega)).other w.heap.size 6 (.int .i64 2) (by omega)
          have hB2 := (hB1.setCell (p := ⟨w.heap.size, 5, none⟩) (by simp) (.int .u64 t.tot)).setCell (p := ⟨w.heap.size, 6, none⟩) (by simp) (.int .i64 2)
          clear X1 Y1 hB1
          go_upto_region 8 with (fail)
          generalize ((W1.setCell ⟨w.heap.size, 5, none⟩ (.int .u64 t.tot)).setCell ⟨w.heap.size, 6, none⟩ (.int .i64 2)) = W2 at *
          have Z := VAt.row Y2 { t with si := t.tot, fa := 2 }
          have hB3 := below_setRow hB2 (vl { t with si := t.tot, fa := 2 }).toArray (g := w.heap.size + 1) (by omega)
          clear x4 x5 x6 f5 f6
          go_wp2_with (first | (refine loadV rfl (.tmp 2) rfl rfl X2 ?_) | (refine storeV rfl (.tmp 4) (.tmp 39) rfl rfl (t := { t with si := t.tot, fa := 2 }) rfl Y2 ?_))
          refine bodyPost_ret (resV2 rfl _ _ _ rfl rfl Z) rfl ⟨rfl, hB3⟩
      · have e1 : t.tick n = { t with si := t.si + n } := by unfold Wd.tick; rw [if_pos ⟨hen, hf⟩, if_neg hge]
        have e2 : t.ran n = n := by unfold Wd.ran; rw [if_neg (by simp [hf]), if_pos hen, if_neg hge]
        rw [e1, e2]
        have hov : t.si + n < 18446744073709551616 := by omega
        have hn : ¬ t.si + n < n := by omega
        clear e1 e2 hen hf HL
        go_enter Try.func23, Try.ntmps23
        go_upto_region 1 with (fail)
        rw [oV_eq, zV_eq]
        generalize ((w.alloc (oV t)).alloc zV) = W at *
        have X2 : VAt _ _ { t with si := t.si + n } := X.s5 (t.si + n)
        have Y2 := Y.other w.heap.size 5 (.int .u64 (t.si + n)) (by omega)
        have hB2 := hB.setCell (p := ⟨w.heap.size, 5, none⟩) (by simp) (.int .u64 (t.si + n))
        clear X Y hB
        go_upto_region 10 with (fail)
        generalize (W.setCell ⟨w.heap.size, 5, none⟩ (.int .u64 (t.si + n))) = W2 at *
        have Z := VAt.row Y2 { t with si := t.si + n }
        have hB3 := below_setRow hB2 (vl { t with si := t.si + n }).toArray (g := w.heap.size + 1) (by omega)
        clear x0 x4 x5 x6 f5 f6
        go_wp2_with (first | (refine loadV rfl (.tmp 2) rfl rfl X2 ?_) | (refine storeV rfl (.tmp 4) (.tmp 46) rfl rfl (t := { t with si := t.si + n }) rfl Y2 ?_))
        refine bodyPost_ret (resV2 rfl _ _ _ rfl rfl Z) rfl ⟨rfl, hB3⟩
  · have q0 : (t.fa != 0) = true := by simp [hf]
    have e1 : t.tick n = t := by unfold Wd.tick; rw [if_neg (fun e => hf e.2)]
    have e2 : t.ran n = 0 := by unfold Wd.ran; rw [if_pos hf]
    rw [e1, e2]
    clear hrun HL e1 e2
    go_enter Try.func23, Try.ntmps23
    go_upto_region 1 with (fail)
    rw [oV_eq, zV_eq]
    generalize ((w.alloc (oV t)).alloc zV) = W at *
    have Z := VAt.row Y t
    have hB2 := below_setRow hB (vl t).toArray (g := w.heap.size + 1) (by omega)
    go_wp2_with (first | (refine loadV rfl (.tmp 2) rfl rfl X ?_) | (refine storeV rfl (.tmp 4) (.tmp 10) rfl rfl (t := t) rfl Y ?_))
    refine bodyPost_ret (resV2 rfl _ _ _ rfl rfl Z) rfl ⟨rfl, hB2⟩
end Go.Proofs.Ytlgdlmhgifhchaa.B
