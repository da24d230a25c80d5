/- Are a clock and the document's the same? They are. -/
import Derived.Test.YteaanlemmhnpgaaL10
import Derived.Test.YteaanlemmhnpgaaTR4
namespace Go.Proofs.Yteaanlemmhnpgaa.B
set_option linter.unusedVariables false
set_option linter.unusedSimpArgs false
open Go.ChangeShapes Go.WideShapes Go.RowKit Go.Sort Go.MapKept
set_option maxRecDepth 100000 in
set_option maxHeartbeats 3200000 in
theorem eAlike (t : Rk) (p : Nat) (w : World) (h : t.ok) (a : EAt w p tRtc t) :
    Calls Try.prog 10 #[.pointer (some ⟨p, 0, none⟩), .agg (kl t).toArray] w fun e w' => e = .returned (.bool true) ∧ Below w.heap.size w w' := by
  have A := a.below (trA (tr0 w) (oK t))
  have M : KAt (w.alloc (oK t)) w.heap.size t := blk_new w (oK t)
  have hB := trA (tr0 w) (oK t)
  clear a
  go_enter Try.func10, Try.ntmps10
  go_upto_region 1 with (fail)
  rw [oK_eq]
  generalize (w.alloc (oK t)) = W at *
  go_wp2_with fail
  go_loopw [5] (fun i wr => ∃ j : Int, 0 ≤ j ∧ j ≤ 9 ∧ i = .int .u32 (4 * j) ∧ EAt wr p tRtc t ∧ KAt wr w.heap.size t ∧ Below w.heap.size w wr) (fun i wr => (36 - intOf i).toNat)
  case atStart => exact ⟨0, by omega, by omega, rfl, A, M, hB⟩
  case round =>
    clear A M hB
    obtain ⟨j, j0, j4, rfl, A, M, hB⟩ := hrel
    by_cases hlt : j < 9
    · have q : 4 * j < 36 := by omega
      obtain ⟨V, hV⟩ : ∃ V, t.valE (4 * j) = V := ⟨_, rfl⟩
      obtain ⟨E, hE⟩ : ∃ E, sErrT (4 * j) = E := ⟨_, rfl⟩
      have CL := Lib.hid (fun w a => by have := eLoad t (4 * j) p w h a (by omega) (by omega); rw [hV, hE] at this; exact this)
      have RL := Lib.hid (fun w => by have := kLoad t (4 * j) w h (by omega) (by omega); rw [hV, hE] at this; exact this)
      have zV : (V != V) = false := by simp
      have zE : (E != E) = false := by simp
      clear hV hE
      go_wp2_with fail
      refine (CL.out _ A).mono ?_
      rintro e w1 ⟨rfl, hb⟩
      have A1 := A.below hb
      have M1 := M.below hb
      have B1 := tr hB hb
      clear A M hB hb CL
      go_wp2_with (refine loadK rfl (.tmp 3) rfl rfl M1 ?_)
      refine (RL.out _).mono ?_
      rintro e w2 ⟨rfl, hb⟩
      have A := A1.below hb
      have M := M1.below hb
      have B := tr B1 hb
      clear A1 M1 B1 hb RL
      go_wp2_with fail
      go_roundw
      case rel => exact ⟨j + 1, by omega, by omega, by go_num, A, M, B⟩
      case measure => simp [intOf]; omega
    · obtain rfl : j = 9 := by omega
      have m1 := M.c1
      have m3 := M.c3
      have m7 := M.c7
      have SE := Lib.hid (fun w a => eSeconds t p w a)
      have RE := Lib.hid (fun w a => eRest t p w a)
      have LI := Lib.hid (fun w a => eLine t p w a)
      obtain ⟨X, hX⟩ : ∃ X, t.alarm = X := ⟨_, rfl⟩
      obtain ⟨Y, hY⟩ : ∃ Y, t.met = Y := ⟨_, rfl⟩
      obtain ⟨Z, hZ⟩ : ∃ Z, t.left = Z := ⟨_, rfl⟩
      have AL := Lib.hid (fun w a => by have := eAlarm t p w a; rw [hX] at this; exact this)
      have KA := Lib.hid (fun w => by have := kAlarm t w h; rw [hX] at this; exact this)
      have ME := Lib.hid (fun w a => by have := eMetC t p w h a; rw [hY] at this; exact this)
      have KM := Lib.hid (fun w => by have := kMet t w h; rw [hY] at this; exact this)
      have LF := Lib.hid (fun w a => by have := eLeft t p w h a; rw [hZ] at this; exact this)
      have KL := Lib.hid (fun w => by have := kLeft t w h; rw [hZ] at this; exact this)
      have HA := Lib.hid A
      have HM := Lib.hid M
      have hg := gcell
      have hlt := M.lt
      have z0 := beq_self_eq_true t.sec
      have z1 := beq_self_eq_true t.rest
      have z2 := beq_self_eq_true X
      have z3 : (Y == Y) = true := by simp
      have z4 : (t.st == t.st) = true := by simp
      have z5 := beq_self_eq_true Z
      clear A M hX hY hZ h
      go_wp2_with fail
      refine wp_region_quiet_below (by kernel_rfl) (by kernel_rfl) ?_
      repeat (first
        | go_big_quiet_skip
        | (go_big_quiet_want; first
            | (refine qloadK (.tmp 3) rfl rfl HM.out.grown ?_; go_simp; go_big_quiet_on)
            | (go_big_quiet_op; first
                | go_big_quiet_on
                | go_big_quiet_call (first
                    | (go_at_call 13; exact Calls.regrown_of (SE.out _ (HA.out.below (below_regrown wr _ _))))
                    | (go_at_call 14; exact Calls.regrown_of (RE.out _ (HA.out.below (below_regrown wr _ _))))
                    | (go_at_call 19; exact Calls.regrown_of (AL.out _ (HA.out.below (below_regrown wr _ _))))
                    | (go_at_call 17; exact Calls.regrown_of (ME.out _ (HA.out.below (below_regrown wr _ _))))
                    | (go_at_call 15; exact Calls.regrown_of (LI.out _ (HA.out.below (below_regrown wr _ _))))
                    | (go_at_call 16; exact Calls.regrown_of (LF.out _ (HA.out.below (below_regrown wr _ _))))
                    | (go_at_call 26; exact Calls.regrown_of (KA.out _))
                    | (go_at_call 27; exact Calls.regrown_of (KM.out _))
                    | (go_at_call 28; exact Calls.regrown_of (KL.out _))))))
      refine wpQuiet_nil ?_
      intro _ hw'
      obtain ⟨⟨dq, osq⟩, hw''⟩ := hw'
      subst hw''
      go_wp2_with fail
      go_ret
      exact ⟨ret_bool (by simp), trG hB _ _⟩
end Go.Proofs.Yteaanlemmhnpgaa.B
