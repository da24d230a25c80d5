/- Are a watchdog and the document's the same? They are. -/
import Derived.Test.YtlgdlmhgifhchaaL08
import Derived.Test.YtlgdlmhgifhchaaWR4
namespace Go.Proofs.Ytlgdlmhgifhchaa.B
set_option linter.unusedVariables false
set_option linter.unusedSimpArgs false
open Go.ChangeShapes Go.WideShapes Go.RowKit Go.Sort Go.MapKept
theorem Wd.val_low {t : Wd} (j : Int) (j0 : 0 ≤ j) (j4 : j < 5) : wErr (4 * j) = 0 := by unfold wErr; rw [if_neg (by omega), if_pos (by omega)]
set_option maxRecDepth 100000 in
set_option maxHeartbeats 3200000 in
theorem dAlike (t : Wd) (p : Nat) (w : World) (h : t.ok) (a : DAt w p t) :
    Calls Try.prog 10 #[.pointer (some ⟨p, 0, none⟩), .agg (vl t).toArray] w fun e w' => e = .returned (.bool true) ∧ Below w.heap.size w w' := by
  have A := a.below (trA (tr0 w) (oV t))
  have M : VAt (w.alloc (oV t)) w.heap.size t := blk_new w (oV t)
  have hB := trA (tr0 w) (oV t)
  clear a
  go_enter Try.func10, Try.ntmps10
  go_upto_region 1 with (fail)
  rw [oV_eq]
  generalize (w.alloc (oV t)) = W at *
  go_wp2_with fail
  go_loopw [5] (fun i wr => ∃ j : Int, 0 ≤ j ∧ j ≤ 5 ∧ i = .int .u32 (4 * j) ∧ DAt wr p t ∧ VAt wr w.heap.size t ∧ Below w.heap.size w wr) (fun i wr => (20 - intOf i).toNat)
  case atStart => exact ⟨0, by omega, by omega, rfl, A, M, hB⟩
  case round =>
    clear A M hB
    obtain ⟨j, j0, j4, rfl, A, M, hB⟩ := hrel
    by_cases hlt : j < 5
    · have q : 4 * j < 20 := by omega
      obtain ⟨V, hV⟩ : ∃ V, t.val (4 * j) = V := ⟨_, rfl⟩
      obtain ⟨E, hE⟩ : ∃ E, wErr (4 * j) = E := ⟨_, rfl⟩
      have CL := Lib.hid (fun w a => by have := dLoad t (4 * j) p w h a (by omega) (by omega); rw [hV, hE] at this; exact this)
      have RL := Lib.hid (fun w => by have := vLoad t (4 * j) w h (by omega) (by omega); rw [hV, hE] at this; exact this)
      have zV : (V != V) = false := by simp
      have zE : (E != E) = false := by simp
      clear hV hE
      go_wp2_with fail
      refine (CL.out _ A).mono ?_
      rintro e w1 ⟨rfl, hb⟩
      have A1 := A.below hb
      have M1 := M.below hb
      have B1 := tr hB hb
      clear A M hB hb CL
      go_wp2_with (refine loadV rfl (.tmp 3) rfl rfl M1 ?_)
      refine (RL.out _).mono ?_
      rintro e w2 ⟨rfl, hb⟩
      have A := A1.below hb
      have M := M1.below hb
      have B := tr B1 hb
      clear A1 M1 B1 hb RL
      go_wp2_with fail
      go_roundw
      case rel => exact ⟨j + 1, by omega, by omega, by go_num, A, M, B⟩
      case measure => simp [intOf]; omega
    · obtain rfl : j = 5 := by omega
      obtain ⟨V, hV⟩ : ∃ V, t.left = V := ⟨_, rfl⟩
      have m0 := M.c0
      have m1 := M.c1
      have m2 := M.c2
      have m5 := M.c5
      have m6 := M.c6
      have FA := Lib.hid (fun w a => dFault t p w a)
      have EN := Lib.hid (fun w a => dEnabled t p w a)
      have LK := Lib.hid (fun w a => dLocked t p w a)
      have AR := Lib.hid (fun w a => dArmed t p w a)
      have SI := Lib.hid (fun w a => dSince t p w a)
      have LF := Lib.hid (fun w a => by have := dLeft t p w h a; rw [hV] at this; exact this)
      have ML := Lib.hid (fun w => by have := vLeft t w h; rw [hV] at this; exact this)
      have HA := Lib.hid A
      have HM := Lib.hid M
      have hg := gcell
      have hlt := M.lt
      have z0 := beq_self_eq_true t.fa
      have z1 := beq_self_eq_true t.si
      have z2 := beq_self_eq_true V
      have z3 : (t.en == t.en) = true := by simp
      have z4 : (t.lk == t.lk) = true := by simp
      have z5 : (t.ar == t.ar) = true := by simp
      clear A M hV h
      go_wp2_with fail
      refine wp_region_quiet_below (by kernel_rfl) (by kernel_rfl) ?_
      repeat (first
        | go_big_quiet_skip
        | (go_big_quiet_want; first
            | (refine qloadV (.tmp 3) rfl rfl HM.out.grown ?_; go_simp; go_big_quiet_on)
            | (go_big_quiet_op; first
                | go_big_quiet_on
                | go_big_quiet_call (first
                    | (go_at_call 15; exact Calls.regrown_of ((FA.out _ (HA.out.below (below_regrown wr _ _))).mono fun e w' h => ⟨h.1, h.2 ▸ tr0 _⟩))
                    | (go_at_call 17; exact Calls.regrown_of ((EN.out _ (HA.out.below (below_regrown wr _ _))).mono fun e w' h => ⟨h.1, h.2 ▸ tr0 _⟩))
                    | (go_at_call 20; exact Calls.regrown_of ((LK.out _ (HA.out.below (below_regrown wr _ _))).mono fun e w' h => ⟨h.1, h.2 ▸ tr0 _⟩))
                    | (go_at_call 19; exact Calls.regrown_of ((AR.out _ (HA.out.below (below_regrown wr _ _))).mono fun e w' h => ⟨h.1, h.2 ▸ tr0 _⟩))
                    | (go_at_call 14; exact Calls.regrown_of ((SI.out _ (HA.out.below (below_regrown wr _ _))).mono fun e w' h => ⟨h.1, h.2 ▸ tr0 _⟩))
                    | (go_at_call 16; exact Calls.regrown_of (LF.out _ (HA.out.below (below_regrown wr _ _))))
                    | (go_at_call 26; exact Calls.regrown_of (ML.out _))))))
      refine wpQuiet_nil ?_
      intro _ hw'
      obtain ⟨⟨dq, osq⟩, hw''⟩ := hw'
      subst hw''
      go_wp2_with fail
      go_ret
      exact ⟨ret_bool (by simp), trG hB _ _⟩
end Go.Proofs.Ytlgdlmhgifhchaa.B
