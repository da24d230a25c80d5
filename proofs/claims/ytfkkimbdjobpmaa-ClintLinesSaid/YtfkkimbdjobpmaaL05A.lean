/- Are a clint and the document's the same? They are. -/
import Derived.Test.YtfkkimbdjobpmaaL05
import Derived.Test.YtfkkimbdjobpmaaCRef4
namespace Go.Proofs.Ytfkkimbdjobpmaa.B
set_option linter.unusedVariables false
set_option linter.unusedSimpArgs false
open Go.ChangeShapes Go.WideShapes Go.RowKit Go.Sort Go.MapKept
set_option maxRecDepth 100000 in
set_option maxHeartbeats 3200000 in
theorem cAlike (t : Int) (n : Nat) (D S : Nat → Int) (p m : Nat) (w : World) (hc : CAt w p m t n D S) :
    Calls Try.prog 18 #[.pointer (some ⟨p, 0, none⟩), .agg (rcl t n D S).toArray] w fun e w' => e = .returned (.bool true) ∧ Below w.heap.size w w' := by
  have n8 := hc.n1
  have hD := Lib.hid hc.d
  unfold rcl
  have A := hc.below (trA (tr0 w) (.cells (rcr t n (fun i => lo (D i)) (fun i => hi (D i)) S).toArray 32))
  have R : RcAt (w.alloc (.cells (rcr t n (fun i => lo (D i)) (fun i => hi (D i)) S).toArray 32)) w.heap.size t n (fun i => lo (D i)) (fun i => hi (D i)) S := blk_new w _
  have hb := trA (tr0 w) (.cells (rcr t n (fun i => lo (D i)) (fun i => hi (D i)) S).toArray 32)
  clear hc
  go_enter Try.func18, Try.ntmps18
  go_upto_region 1 with (fail)
  generalize (w.alloc (.cells (rcr t n (fun i => lo (D i)) (fun i => hi (D i)) S).toArray 32)) = W at *
  have cN := R.cN
  have cT := R.cT
  have hlr := R.lt
  have hg := gcell
  have HA := Lib.hid A
  have HR := Lib.hid R
  have zn : ((n : Int) != n) = false := by simp
  have zt : (t != t) = false := by simp
  clear A R
  go_wp2_with fail
  refine wp_region_quiet_below (by kernel_rfl) (by kernel_rfl) ?_
  repeat (go_big_quiet_step (first
    | (go_at_call 22; exact Calls.regrown_of ((cHarts _ _ _ _ _ _ _ (HA.out.below (below_regrown W _ _))).mono fun _ _ g => ⟨g.1, g.2 ▸ tr0 _⟩))
    | (go_at_call 20; exact Calls.regrown_of ((cTime _ _ _ _ _ _ _ (HA.out.below (below_regrown W _ _))).mono fun _ _ g => ⟨g.1, g.2 ▸ tr0 _⟩))))
  refine wpQuiet_nil ?_
  intro _ hw'
  obtain ⟨⟨dq, osq⟩, hw''⟩ := hw'
  subst hw''
  have hg1 := below_regrown W dq osq
  have A1 := HA.out.below hg1
  have R1 := RcAt.below HR.out hg1
  have b1 := tr hb hg1
  clear HA HR hb hg1 cN cT hlr
  generalize grow (redrawn W dq) osq = W1 at *
  go_wp2_with fail
  go_loopw [5] (fun i wr => ∃ j : Int, -1 ≤ j ∧ j ≤ 9 ∧ i = .int .i64 j ∧ CAt wr p m t n D S ∧ RcAt wr w.heap.size t n (fun i => lo (D i)) (fun i => hi (D i)) S ∧ Below w.heap.size w wr) (fun i _ => (9 - intOf i).toNat)
  case atStart => exact ⟨-1, by omega, by omega, rfl, A1, R1, b1⟩
  case round =>
    clear A1 R1 b1
    obtain ⟨j, j0, j9, rfl, A, R, hb⟩ := hrel
    by_cases hlt : j < 9
    · have cN := R.cN
      have hlr := R.lt
      have hg := gcell
      have HA := Lib.hid A
      have HR := Lib.hid R
      have CC0 := Lib.hid (show ∀ w', CAt w' p m t n D S → Calls Try.prog 21 #[.pointer (some ⟨p, 0, none⟩), .int .i64 j] w' fun e w'' => e = .returned (.int .u64 (cCmp n D j)) ∧ Below w'.heap.size w' w'' from fun w' a => (cCompare j t n D S p m w' a).mono fun _ _ g => ⟨g.1, g.2 ▸ tr0 _⟩)
      have RC0 := Lib.hid (fun w' => rcCompare j t n D S w' n8 hD.out)
      have CL0 := Lib.hid (fun w' a => cLine t j n D S p m w' a)
      have RL0 := Lib.hid (fun w' => rcLine j t n D S w' n8 hD.out)
      have CS0 := Lib.hid (fun w' a => cSoft t j n D S p m w' a)
      unfold rcl at RC0 RL0
      obtain ⟨X, hX⟩ : ∃ X, cCmp n D j = X := ⟨_, rfl⟩
      obtain ⟨L, hL⟩ : ∃ L, cLn t n D j = L := ⟨_, rfl⟩
      have CC := Lib.hid (by have := CC0.out; rw [hX] at this; exact this)
      have RC := Lib.hid (by have := RC0.out; rw [hX] at this; exact this)
      have CL := Lib.hid (by have := CL0.out; rw [hL] at this; exact this)
      have RL := Lib.hid (by have := RL0.out; rw [hL] at this; exact this)
      have zX : (X != X) = false := by simp
      have zL : (L != L) = false := by simp
      clear CC0 RC0 CL0 RL0 hX hL
      cases hq : isHart n j
      · have hs : cSf n S j = false := by unfold cSf; rw [hq]; rfl
        have CS := Lib.hid (by have := CS0.out; rw [hs] at this; exact this)
        have hh : ¬ (0 ≤ j ∧ j < (n : Int)) := by unfold isHart at hq; simpa using hq
        clear CS0 hs hq A R
        by_cases hz : 0 ≤ j
        · have q1 : decide (j < (n : Int)) = false := decide_eq_false (fun e => hh ⟨hz, e⟩)
          have q2 : (n : Int) ≤ j := by omega
          clear hh
          go_wp2_with fail
          refine wp_region_quiet_below (by kernel_rfl) (by kernel_rfl) ?_
          repeat (first
            | go_big_quiet_skip
            | (go_big_quiet_want; first
                | (refine qloadC (.tmp 3) rfl rfl (grown_block HR.out) ?_; go_simp; go_big_quiet_on)
                | (go_big_quiet_op; first
                    | go_big_quiet_on
                    | go_big_quiet_call (first
                        | (go_at_call 21; exact Calls.regrown_of (CC.out _ (HA.out.below (below_regrown wr _ _))))
                        | (go_at_call 36; exact Calls.regrown_of (RC.out _))
                        | (go_at_call 19; exact Calls.regrown_of (CL.out _ (HA.out.below (below_regrown wr _ _))))
                        | (go_at_call 37; exact Calls.regrown_of (RL.out _))
                        | (go_at_call 23; exact Calls.regrown_of (CS.out _ (HA.out.below (below_regrown wr _ _))))))))
          refine wpQuiet_nil ?_
          intro _ hw'
          obtain ⟨⟨dq, osq⟩, hw''⟩ := hw'
          subst hw''
          have hg2 := below_regrown wr dq osq
          have A2 := HA.out.below hg2
          have R2 := RcAt.below HR.out hg2
          have b2 := tr hb hg2
          go_wp2_with fail
          go_roundw
          case rel => exact ⟨j + 1, by omega, by omega, by go_num, A2, R2, b2⟩
          case measure => simp [intOf]; omega
        · clear hh
          go_wp2_with fail
          refine wp_region_quiet_below (by kernel_rfl) (by kernel_rfl) ?_
          repeat (first
            | go_big_quiet_skip
            | (go_big_quiet_want; first
                | (refine qloadC (.tmp 3) rfl rfl (grown_block HR.out) ?_; go_simp; go_big_quiet_on)
                | (go_big_quiet_op; first
                    | go_big_quiet_on
                    | go_big_quiet_call (first
                        | (go_at_call 21; exact Calls.regrown_of (CC.out _ (HA.out.below (below_regrown wr _ _))))
                        | (go_at_call 36; exact Calls.regrown_of (RC.out _))
                        | (go_at_call 19; exact Calls.regrown_of (CL.out _ (HA.out.below (below_regrown wr _ _))))
                        | (go_at_call 37; exact Calls.regrown_of (RL.out _))
                        | (go_at_call 23; exact Calls.regrown_of (CS.out _ (HA.out.below (below_regrown wr _ _))))))))
          refine wpQuiet_nil ?_
          intro _ hw'
          obtain ⟨⟨dq, osq⟩, hw''⟩ := hw'
          subst hw''
          have hg2 := below_regrown wr dq osq
          have A2 := HA.out.below hg2
          have R2 := RcAt.below HR.out hg2
          have b2 := tr hb hg2
          go_wp2_with fail
          go_roundw
          case rel => exact ⟨j + 1, by omega, by omega, by go_num, A2, R2, b2⟩
          case measure => simp [intOf]; omega
      · have hh : 0 ≤ j ∧ j < (n : Int) := by unfold isHart at hq; simpa using hq
        obtain ⟨k, rfl⟩ := Int.eq_ofNat_of_zero_le hh.1
        have hk : k < 8 := by omega
        have cS := R.cS k hk
        have hkn : (k : Int) < n := hh.2
        cases hB : (S k == 1)
        · have hs : cSf n S (k : Int) = false := by unfold cSf; rw [hq, Int.toNat_natCast, hB]; rfl
          have CS := Lib.hid (by have := CS0.out; rw [hs] at this; exact this)
          clear CS0 hs hq A R hh
          go_wp2_with fail
          refine wp_region_quiet_below (by kernel_rfl) (by kernel_rfl) ?_
          repeat (first
            | go_big_quiet_skip
            | (go_big_quiet_want; first
                | (refine qloadC (.tmp 3) rfl rfl (grown_block HR.out) ?_; go_simp; go_big_quiet_on)
                | (go_big_quiet_op; first
                    | go_big_quiet_on
                    | go_big_quiet_call (first
                        | (go_at_call 21; exact Calls.regrown_of (CC.out _ (HA.out.below (below_regrown wr _ _))))
                        | (go_at_call 36; exact Calls.regrown_of (RC.out _))
                        | (go_at_call 19; exact Calls.regrown_of (CL.out _ (HA.out.below (below_regrown wr _ _))))
                        | (go_at_call 37; exact Calls.regrown_of (RL.out _))
                        | (go_at_call 23; exact Calls.regrown_of (CS.out _ (HA.out.below (below_regrown wr _ _))))))))
          refine wpQuiet_nil ?_
          intro _ hw'
          obtain ⟨⟨dq, osq⟩, hw''⟩ := hw'
          subst hw''
          have hg2 := below_regrown wr dq osq
          have A2 := HA.out.below hg2
          have R2 := RcAt.below HR.out hg2
          have b2 := tr hb hg2
          go_wp2_with fail
          go_roundw
          case rel => exact ⟨(k : Int) + 1, by omega, by omega, by go_num, A2, R2, b2⟩
          case measure => simp [intOf]; omega
        · have hs : cSf n S (k : Int) = true := by unfold cSf; rw [hq, Int.toNat_natCast, hB]; rfl
          have CS := Lib.hid (by have := CS0.out; rw [hs] at this; exact this)
          clear CS0 hs hq A R hh
          go_wp2_with fail
          refine wp_region_quiet_below (by kernel_rfl) (by kernel_rfl) ?_
          repeat (first
            | go_big_quiet_skip
            | (go_big_quiet_want; first
                | (refine qloadC (.tmp 3) rfl rfl (grown_block HR.out) ?_; go_simp; go_big_quiet_on)
                | (go_big_quiet_op; first
                    | go_big_quiet_on
                    | go_big_quiet_call (first
                        | (go_at_call 21; exact Calls.regrown_of (CC.out _ (HA.out.below (below_regrown wr _ _))))
                        | (go_at_call 36; exact Calls.regrown_of (RC.out _))
                        | (go_at_call 19; exact Calls.regrown_of (CL.out _ (HA.out.below (below_regrown wr _ _))))
                        | (go_at_call 37; exact Calls.regrown_of (RL.out _))
                        | (go_at_call 23; exact Calls.regrown_of (CS.out _ (HA.out.below (below_regrown wr _ _))))))))
          refine wpQuiet_nil ?_
          intro _ hw'
          obtain ⟨⟨dq, osq⟩, hw''⟩ := hw'
          subst hw''
          have hg2 := below_regrown wr dq osq
          have A2 := HA.out.below hg2
          have R2 := RcAt.below HR.out hg2
          have b2 := tr hb hg2
          go_wp2_with fail
          go_roundw
          case rel => exact ⟨(k : Int) + 1, by omega, by omega, by go_num, A2, R2, b2⟩
          case measure => simp [intOf]; omega
    · go_wp2_with fail
      go_ret
      exact ⟨rfl, hb⟩
end Go.Proofs.Ytfkkimbdjobpmaa.B
