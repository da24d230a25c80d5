/- Are a timer and the document's the same? They are. -/
import Derived.Test.YtijjapmdkalfaaaL06
import Derived.Test.YtijjapmdkalfaaaNR4
namespace Go.Proofs.Ytijjapmdkalfaaa.B
set_option linter.unusedVariables false
set_option linter.unusedSimpArgs false
open Go.ChangeShapes Go.WideShapes Go.RowKit Go.Sort Go.MapKept
set_option maxRecDepth 100000 in
set_option maxHeartbeats 3200000 in
theorem nAlike (t : Tm) (p : Nat) (w : World) (h : t.ok) (a : TAt w p tC t) :
    Calls Try.prog 16 #[.pointer (some ⟨p, 0, none⟩), .agg (rl t).toArray] w fun e w' => e = .returned (.bool true) ∧ Below w.heap.size w w' := by
  have A := a.below (trA (tr0 w) (oM t))
  have M : MAt (w.alloc (oM t)) w.heap.size t := blk_new w (oM t)
  have hB := trA (tr0 w) (oM t)
  clear a
  go_enter Try.func16, Try.ntmps16
  go_upto_region 1 with (fail)
  rw [show Obj.cells (rl t).toArray 48 (0, 0) = oM t from rfl]
  generalize (w.alloc (oM t)) = W at *
  go_wp2_with fail
  go_loopw [5] (fun i wr => ∃ j : Int, 0 ≤ j ∧ j ≤ 4 ∧ i = .int .u32 (4 * j) ∧ TAt wr p tC t ∧ MAt wr w.heap.size t ∧ Below w.heap.size w wr) (fun i wr => (20 - intOf i).toNat)
  case atStart => exact ⟨0, by omega, by omega, rfl, A, M, hB⟩
  case round =>
    clear A M hB
    obtain ⟨j, j0, j4, rfl, A, M, hB⟩ := hrel
    by_cases hlt : j < 4
    · have q : 4 * j < 16 := by omega
      obtain ⟨V, hV⟩ : ∃ V, t.val (4 * j) = V := ⟨_, rfl⟩
      obtain ⟨E, hE⟩ : ∃ E, nErr (4 * j) = E := ⟨_, rfl⟩
      have CL := Lib.hid (fun w a => by have := nLoad t (4 * j) p w h a (by omega) (by omega); rw [hV, hE] at this; exact this)
      have RL := Lib.hid (fun w => by have := mLoad t (4 * j) w h (by omega) (by omega); rw [hV, hE] at this; exact this)
      have zV : (V != V) = false := by simp
      have zE : (E != E) = false := by simp
      clear hV hE
      go_wp2_with fail
      refine (CL.out _ A).mono ?_
      rintro e w' ⟨rfl, rfl⟩
      go_wp2_with (refine loadM rfl (.tmp 3) rfl rfl M ?_)
      refine (RL.out _).mono ?_
      rintro e w1 ⟨rfl, hb⟩
      have A1 := A.below hb
      have M1 := M.below hb
      have B1 := tr hB hb
      clear A M hB hb CL RL
      go_wp2_with fail
      go_roundw
      case rel => exact ⟨j + 1, by omega, by omega, by go_num, A1, M1, B1⟩
      case measure => simp [intOf]; omega
    · obtain rfl : j = 4 := by omega
      obtain ⟨l, hl⟩ : ∃ l, (t.st && t.iq) = l := ⟨_, rfl⟩
      obtain ⟨V, hV⟩ : ∃ V, t.lef = V := ⟨_, rfl⟩
      have m2 := M.c2
      have m4 := M.c4
      have m7 := M.c7
      have RN := Lib.hid (fun w a => nRuns t p w h a)
      have LN := Lib.hid (fun w a => by have := nLine t p w h a; rw [hl] at this; exact this)
      have LF := Lib.hid (fun w a => by have := nLeftC t p w h a; rw [hV] at this; exact this)
      have ML := Lib.hid (fun w => by have := mLeft t w h; rw [hV] at this; exact this)
      have HA := Lib.hid A
      have HM := Lib.hid M
      have hg := gcell
      have hlt := M.lt
      clear A M hV
      obtain ⟨en, hen⟩ : ∃ b, t.en = b := ⟨_, rfl⟩
      obtain ⟨iq, hiq⟩ : ∃ b, t.iq = b := ⟨_, rfl⟩
      obtain ⟨st, hst⟩ : ∃ b, t.st = b := ⟨_, rfl⟩
      rw [hen] at m2 RN
      rw [hiq] at m4 hl
      rw [hst] at m7 hl
      clear hen hiq hst
      cases en <;> cases iq <;> cases st
      all_goals
        simp only [Bool.and_true, Bool.and_false, Bool.and_self] at hl
        subst hl
        go_wp2_with fail
        refine wp_region_quiet_below (by kernel_rfl) (by kernel_rfl) ?_
        repeat (first
          | go_big_quiet_skip
          | (go_big_quiet_want; first
              | (refine qloadM (.tmp 3) rfl rfl HM.out.grown ?_; go_simp; go_big_quiet_on)
              | (go_big_quiet_op; first
                  | go_big_quiet_on
                  | go_big_quiet_call (first
                      | (go_at_call 35; exact Calls.regrown_of (RN.out _ (HA.out.below (below_regrown wr _ _))))
                      | (go_at_call 39; exact Calls.regrown_of (LN.out _ (HA.out.below (below_regrown wr _ _))))
                      | (go_at_call 33; exact Calls.regrown_of (LF.out _ (HA.out.below (below_regrown wr _ _))))
                      | (go_at_call 40; exact Calls.regrown_of (ML.out _))))))
        refine wpQuiet_nil ?_
        intro _ hw'
        obtain ⟨⟨dq, osq⟩, hw''⟩ := hw'
        subst hw''
        go_wp2_with fail
        go_ret
        exact ⟨ret_bool (by simp), trG hB _ _⟩
end Go.Proofs.Ytijjapmdkalfaaa.B
