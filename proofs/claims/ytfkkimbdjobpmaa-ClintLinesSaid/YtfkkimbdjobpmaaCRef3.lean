/- The document's own answers of layer 5: Line, Load. -/
import Derived.Test.YtfkkimbdjobpmaaCRef2
namespace Go.Proofs.Ytfkkimbdjobpmaa.B
set_option linter.unusedVariables false
set_option linter.unusedSimpArgs false
open Go.ChangeShapes Go.WideShapes Go.RowKit Go.Sort
set_option maxHeartbeats 800000 in
theorem rcLine (h t : Int) (n : Nat) (D S : Nat → Int) (w : World) (n8 : n ≤ 8) (hD : okD D) :
    Calls Try.prog 37 #[.agg (rcl t n D S).toArray, .int .i64 h] w fun e w' => e = .returned (.bool (cLn t n D h)) ∧ Below w.heap.size w w' := by
  have cC := Lib.hid (fun w => rcCompare h t n D S w n8 hD)
  unfold rcl
  have h0 : RcAt (w.alloc (.cells (rcr t n (fun i => lo (D i)) (fun i => hi (D i)) S).toArray 32)) w.heap.size t n (fun i => lo (D i)) (fun i => hi (D i)) S := blk_new w _
  have hb := trA (tr0 w) (.cells (rcr t n (fun i => lo (D i)) (fun i => hi (D i)) S).toArray 32)
  have hl := h0.lt
  have cN := h0.cN
  have cT := h0.cT
  have hg := gcell
  cases hq : isHart n h
  · rw [show cLn t n D h = false by unfold cLn; rw [hq]; rfl]
    have hh : ¬ (0 ≤ h ∧ h < (n : Int)) := by unfold isHart at hq; simpa using hq
    by_cases hz : 0 ≤ h
    · have q0 : decide (0 ≤ h) = true := decide_eq_true hz
      have q1 : decide (h < (n : Int)) = false := decide_eq_false (fun e => hh ⟨hz, e⟩)
      go_enter Try.func37, Try.ntmps37
      go_upto_region 1 with (fail)
      generalize (w.alloc (.cells (rcr t n (fun i => lo (D i)) (fun i => hi (D i)) S).toArray 32)) = W at *
      clear h0 hh hq
      go_wp2_with fail
      refine wp_region_quiet_below (by kernel_rfl) (by kernel_rfl) ?_
      repeat (go_big_quiet_step (fail))
      refine wpQuiet_nil ?_
      intro _ hw'
      obtain ⟨⟨dq, osq⟩, hw''⟩ := hw'
      subst hw''
      go_wp2_with fail
      go_ret
      exact ⟨rfl, trG hb _ _⟩
    · have q0 : decide (0 ≤ h) = false := decide_eq_false hz
      go_enter Try.func37, Try.ntmps37
      go_upto_region 1 with (fail)
      generalize (w.alloc (.cells (rcr t n (fun i => lo (D i)) (fun i => hi (D i)) S).toArray 32)) = W at *
      clear h0 hh hq
      go_wp2_with fail
      refine wp_region_quiet_below (by kernel_rfl) (by kernel_rfl) ?_
      repeat (go_big_quiet_step (fail))
      refine wpQuiet_nil ?_
      intro _ hw'
      obtain ⟨⟨dq, osq⟩, hw''⟩ := hw'
      subst hw''
      go_wp2_with fail
      go_ret
      exact ⟨rfl, trG hb _ _⟩
  · have hh : 0 ≤ h ∧ h < (n : Int) := by unfold isHart at hq; simpa using hq
    obtain ⟨k, rfl⟩ := Int.eq_ofNat_of_zero_le hh.1
    rw [show cLn t n D (k : Int) = decide (D k ≤ t) by unfold cLn; rw [hq]; rfl]
    have e : cCmp n D (k : Int) = D k := by unfold cCmp; rw [if_pos hq]; rfl
    have cC2 := Lib.hid (fun w => by have := cC.out w; rw [e] at this; exact this)
    have hkn : (k : Int) < n := hh.2
    have q0 : decide ((0 : Int) ≤ (k : Int)) = true := decide_eq_true (by omega)
    have q1 : decide ((k : Int) < (n : Int)) = true := decide_eq_true hkn
    clear hq hh e cC
    unfold rcl at cC2
    go_enter Try.func37, Try.ntmps37
    go_upto_region 1 with (fail)
    generalize (w.alloc (.cells (rcr t n (fun i => lo (D i)) (fun i => hi (D i)) S).toArray 32)) = W at *
    have HB := Lib.hid h0
    clear h0
    go_wp2_with fail
    refine wp_region_quiet_below (by kernel_rfl) (by kernel_rfl) ?_
    repeat (first
      | go_big_quiet_skip
      | (go_big_quiet_want; first
          | (refine qloadC (.tmp 2) rfl rfl (grown_block HB.out) ?_; go_simp; go_big_quiet_on)
          | (go_big_quiet_op; first
              | go_big_quiet_on
              | go_big_quiet_call (first | (go_at_call 36; exact Calls.regrown_of (cC2.out _))))))
    refine wpQuiet_nil ?_
    intro _ hw'
    obtain ⟨⟨dq, osq⟩, hw''⟩ := hw'
    subst hw''
    go_wp2_with fail
    go_ret
    exact ⟨rfl, trG hb _ _⟩
set_option maxHeartbeats 1600000 in
theorem rcLoad (o t : Int) (n : Nat) (D S : Nat → Int) (w : World) (n8 : n ≤ 8) (hD : okD D) (t0 : 0 ≤ t) (t1 : t < 18446744073709551616) (o0 : 0 ≤ o) (o1 : o < 4294967296) :
    Calls Try.prog 11 #[.agg (rcl t n D S).toArray, .int .u32 o] w fun e w' => e = .returned (.tuple #[.int .u32 (cVal t n D S o), .int .i64 (cErr n o)]) ∧ Below w.heap.size w w' := by
  unfold rcl
  have h0 : RcAt (w.alloc (.cells (rcr t n (fun i => lo (D i)) (fun i => hi (D i)) S).toArray 32)) w.heap.size t n (fun i => lo (D i)) (fun i => hi (D i)) S := blk_new w _
  have hb := trA (tr0 w) (.cells (rcr t n (fun i => lo (D i)) (fun i => hi (D i)) S).toArray 32)
  have hl := h0.lt
  have cN := h0.cN
  have cT := h0.cT
  by_cases h4 : o % 4 = 0
  · have n4 : (o % 4 != 0) = false := ne4 h4
    by_cases e1 : o = 49144
    · subst e1
      rw [lo_val, lo_err]
      go_enter Try.func11, Try.ntmps11
      go_wp2_with (first | (go_at_call 27; refine (rLo _ _ t0 t1).mono ?_; rintro e w' ⟨rfl, rfl⟩))
      go_ret2
      exact ⟨rfl, hb⟩
    · by_cases e2 : o = 49148
      · subst e2
        rw [hi_val, hi_err]
        go_enter Try.func11, Try.ntmps11
        go_wp2_with (first | (go_at_call 28; refine (rHi _ _ t0 t1).mono ?_; rintro e w' ⟨rfl, rfl⟩))
        go_ret2
        exact ⟨rfl, hb⟩
      · have b1 : (o == 49144) = false := by simpa using e1
        have b2 : (o == 49148) = false := by simpa using e2
        obtain ⟨V, hV⟩ : ∃ V, cVal t n D S o = V := ⟨_, rfl⟩
        obtain ⟨E, hE⟩ : ∃ E, cErr n o = E := ⟨_, rfl⟩
        rw [hV, hE]
        have HV := Lib.hid hV
        have HE := Lib.hid hE
        have H1 := Lib.hid e1
        have H2 := Lib.hid e2
        clear hV hE e1 e2
        go_enter Try.func11, Try.ntmps11
        go_upto_region 8 with (fail)
        generalize (w.alloc (.cells (rcr t n (fun i => lo (D i)) (fun i => hi (D i)) S).toArray 32)) = W at *
        have H0 := Lib.hid h0
        clear h0
        go_loop [6] (fun i => ∃ k : Nat, k ≤ n ∧ i = .int .i64 k ∧ Hid (∀ j : Nat, j < k → o ≠ 4 * (j : Int) ∧ o ≠ 16384 + 8 * (j : Int) ∧ o ≠ 16384 + 8 * (j : Int) + 4)) (fun i => n - (intOf i).toNat)
        case atStart => exact ⟨0, by omega, rfl, Lib.hid fun j hj => by omega⟩
        case round =>
          obtain ⟨k, hk, rfl, HN⟩ := hrel
          by_cases hlt : k < n
          · have hk8 : k < 8 := by omega
            have cL := H0.out.cL k hk8
            have cH := H0.out.cH k hk8
            have cS := H0.out.cS k hk8
            by_cases g1 : o = 4 * (k : Int)
            · have HV2 := Lib.hid (show V = S k by rw [← HV.out, g1, soft_val hlt n8])
              have HE2 := Lib.hid (show E = 0 by rw [← HE.out, g1, soft_err hlt])
              have q1 : (o == 4 * (k : Int)) = true := by simpa using g1
              clear g1
              go_wp2_with fail
              go_ret2
              exact ⟨by rw [HV2.out, HE2.out]; rfl, hb⟩
            · have q1 : (o == 4 * (k : Int)) = false := by simpa using g1
              by_cases g2 : o = 16384 + 8 * (k : Int)
              · have HV2 := Lib.hid (show V = lo (D k) by rw [← HV.out, g2, low_val hlt n8])
                have HE2 := Lib.hid (show E = 0 by rw [← HE.out, g2, low_err hlt])
                have q2 : (o == 16384 + 8 * (k : Int)) = true := by simpa using g2
                clear g1 g2
                go_wp2_with fail
                go_ret2
                exact ⟨by rw [HV2.out, HE2.out]; rfl, hb⟩
              · have q2 : (o == 16384 + 8 * (k : Int)) = false := by simpa using g2
                by_cases g3 : o = 16384 + 8 * (k : Int) + 4
                · have HV2 := Lib.hid (show V = hi (D k) by rw [← HV.out, g3, high_val hlt n8])
                  have HE2 := Lib.hid (show E = 0 by rw [← HE.out, g3, high_err hlt])
                  have q3 : (o == 16388 + 8 * (k : Int)) = true := by simp; omega
                  clear g1 g2 g3
                  go_wp2_with fail
                  go_ret2
                  exact ⟨by rw [HV2.out, HE2.out]; rfl, hb⟩
                · have q3 : (o == 16388 + 8 * (k : Int)) = false := by simp; omega
                  have HN2 := Lib.hid (show ∀ j : Nat, j < k + 1 → o ≠ 4 * (j : Int) ∧ o ≠ 16384 + 8 * (j : Int) ∧ o ≠ 16384 + 8 * (j : Int) + 4 from fun j hj => by
                    by_cases e : j = k
                    · subst e; exact ⟨g1, g2, g3⟩
                    · exact HN.out j (by omega))
                  clear g1 g2 g3
                  go_wp2_with fail
                  go_round
                  case rel => exact ⟨k + 1, by omega, by go_num, HN2⟩
                  case measure => simp [intOf]; omega
          · obtain rfl : k = n := by omega
            have he := none_err (n := k) o0 h4 H1.out H2.out HN.out
            have HE2 := Lib.hid (show E = 10 by rw [← HE.out, he])
            have HV2 := Lib.hid (show V = 0 by rw [← HV.out, err_val (by rw [he]; omega)])
            clear he
            go_wp2_with fail
            go_ret2
            exact ⟨by rw [HV2.out, HE2.out]; rfl, hb⟩
  · have n4 : (o % 4 != 0) = true := by simpa using h4
    rw [odd_err h4, err_val (by rw [odd_err h4]; omega)]
    go_enter Try.func11, Try.ntmps11
    go_wp2_with fail
    go_ret2
    exact ⟨rfl, hb⟩
end Go.Proofs.Ytfkkimbdjobpmaa.B
