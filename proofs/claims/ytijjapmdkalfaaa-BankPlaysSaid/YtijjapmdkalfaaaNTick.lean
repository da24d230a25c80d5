/- What a Count's Tick does. -/
import Derived.Test.YtijjapmdkalfaaaNStore
namespace Go.Proofs.Ytijjapmdkalfaaa.B
set_option linter.unusedVariables false
set_option linter.unusedSimpArgs false
open Go.ChangeShapes Go.WideShapes Go.RowKit Go.Sort
theorem zW_T : Obj.cells #[.int .u32 0, .int .u32 0, .int .u32 0, .int .u32 0, .int .u64 0] 77 (0, 0) = .cells (wl tz).toArray 77 (0, 0) := rfl
set_option maxHeartbeats 1600000 in
set_option maxRecDepth 100000 in
theorem nTick (t : Tm) (n : Int) (p : Nat) (w : World) (h : t.ok) (a : TAt w p tC t) (n0 : 0 ≤ n) (n1 : n < 18446744073709551616) :
    Calls Try.prog 36 #[.pointer (some ⟨p, 0, none⟩), .int .u64 n] w fun e w' => e = .returned (.tuple #[]) ∧ TAt w' p tC (t.tick n) ∧ Off (· = p) w w' := by
  obtain ⟨R, hR⟩ : ∃ R, t.tick n = R := ⟨_, rfl⟩
  rw [hR]
  have HR := Lib.hid hR
  clear hR
  go_enter Try.func36, Try.ntmps36
  go_wp2_with fail
  go_loopw [1] (fun x wr => ∃ (m : Int) (s : Tm), x = .int .u64 m ∧ 0 ≤ m ∧ m < 18446744073709551616 ∧ s.ok ∧ TAt wr p tC s ∧ Off (· = p) w wr ∧ Hid (s.tick m = R)) (fun x wr => (intOf x).toNat)
  case atStart => exact ⟨n, t, rfl, n0, n1, h, a, Off.refl _ _, HR⟩
  case round =>
    clear a h HR n0 n1
    obtain ⟨m, s, rfl, m0, m1, h, a, ho, HR⟩ := hrel
    have hL := h.left
    have RN := Lib.hid (fun w a => nRuns s p w h a)
    cases hen : s.en
    · rw [hen] at RN
      go_wp2_with fail
      refine (RN.out _ a).mono ?_
      rintro e w1 ⟨rfl, hb⟩
      have a1 := a.below hb
      have ho1 := ho.trans (Off.ofBelow hb)
      clear a hb ho
      go_wp2_with fail
      refine (RN.out _ a1).mono ?_
      rintro e w2 ⟨rfl, hb⟩
      have a2 := a1.below hb
      have ho2 := ho1.trans (Off.ofBelow hb)
      clear a1 hb ho1
      go_wp2_with fail
      go_end0
      refine ⟨rfl, ?_, ho2⟩
      rw [← HR.out, Tm.tick_off hen]; exact a2
    · rw [hen] at RN
      have LF := Lib.hid (fun w => nLft s w h)
      go_wp2_with fail
      refine (RN.out _ a).mono ?_
      rintro e w1 ⟨rfl, hb⟩
      have a1 := a.below hb
      have ho1 := ho.trans (Off.ofBelow hb)
      clear a hb ho
      go_wp2_with (refine loadTg (.tmp 11) rfl rfl rfl a1 ?_)
      refine (LF.out _).mono ?_
      rintro e w2 ⟨rfl, hb⟩
      have a := a1.below hb
      have ho := ho1.trans (Off.ofBelow hb)
      clear a1 hb ho1
      by_cases hle : s.left ≤ m
      · go_wp2_with (refine loadT rfl (.tmp 19) rfl rfl a ?_)
        refine (LF.out _).mono ?_
        rintro e w1 ⟨rfl, hb⟩
        have a1 := a.below hb
        have ho1 := ho.trans (Off.ofBelow hb)
        clear a hb ho
        have HE := Lib.hid (show s.exp.tick (m - s.left) = R by rw [← Tm.tick_ge h hen hle]; exact HR.out)
        clear HR LF RN
        have zq : TAt (w1.alloc (.cells (wl tz).toArray 77 (0, 0))) w1.heap.size 77 tz := blk_new w1 (.cells (wl tz).toArray 77 (0, 0))
        have hpq : p ≠ w1.heap.size := by have := a1.lt; omega
        have aP := (a1.below (trA (tr0 w1) (.cells (wl tz).toArray 77 (0, 0)))).elseRow w1.heap.size (wl s).toArray hpq
        have aQ := TAt.row zq s
        have hq0 : w.heap.size ≤ w1.heap.size := ho1.size
        have hoP : Off (· = p) w ((w1.alloc (.cells (wl tz).toArray 77 (0, 0))).setRow w1.heap.size (wl s).toArray) :=
          ho1.trans (Off.ofBelow (below_setRow (trA (tr0 w1) _) _ (Nat.le_refl _)))
        go_upto_region 3 with (first | (refine loadT rfl (.tmp 25) rfl rfl a1 ?_) | (refine storeT rfl (.tmp 4) (.tmp 26) rfl rfl rfl zq ?_))
        rw [zW_T]
        clear a1 zq ho1
        generalize ((w1.alloc (.cells (wl tz).toArray 77 (0, 0))).setRow w1.heap.size (wl s).toArray) = W2 at *
        generalize w1.heap.size = q at *
        go_wp2_with (refine loadT rfl (.tmp 30) rfl rfl aP ?_)
        refine (nExp s _ h).mono ?_
        rintro e W3 ⟨rfl, hb⟩
        have aP1 := aP.below hb
        have aQ1 := aQ.below hb
        have ho1 := hoP.trans (Off.ofBelow hb)
        clear aP aQ hoP hb
        have aP := TAt.row aP1 s.exp
        have aQ := aQ1.elseRow p (wl s.exp).toArray (fun e => hpq e.symm)
        have ho := ho1.trans (off_row W3 p (wl s.exp).toArray)
        go_upto_region 4 with (refine storeT rfl (.tmp 34) (.tmp 32) rfl rfl rfl aP1 ?_)
        clear aP1 aQ1 ho1
        generalize W3.setRow p (wl s.exp).toArray = W4 at *
        have hE := Tm.exp_ok h
        have hEL := hE.left
        cases hq : eqT s.exp s
        · go_simp
          refine wp_region_quiet_below (by kernel_rfl) (by kernel_rfl) ?_
          repeat (first
            | go_big_quiet_skip
            | (go_big_quiet_want; first
                | (refine qloadT (.tmp 37) rfl rfl aP.grown ?_; go_simp; go_big_quiet_on)
                | (refine qloadT (.tmp 4) rfl rfl aQ.grown ?_; go_simp; go_big_quiet_on)
                | (refine qeqT (.tmp 38) (.tmp 39) _ rfl rfl rfl ?_; go_simp; go_big_quiet_on)
                | (go_big_quiet_op; first | go_big_quiet_on)))
          refine wpQuiet_nil ?_
          intro _ hw'
          obtain ⟨⟨dq, osq⟩, hw''⟩ := hw'
          subst hw''
          have hbr := below_regrown W4 dq osq
          go_wp2_with fail
          go_roundw
          case rel => exact ⟨m - s.left, s.exp, rfl, by omega, by omega, hE, aP.below hbr, ho.trans (Off.ofBelow hbr), HE⟩
          case measure => simp [intOf]; omega
        · have hs := eqT_exp hen hq
          have hm := mod_bounds (a := m - s.left) (u := s.exp.left) (by omega)
          have hm2 : (m - s.left) % s.exp.left ≤ m - s.left := by
            by_cases c : m - s.left < s.exp.left
            · rw [Int.emod_eq_of_lt (by omega) c]; omega
            · omega
          have HE2 := Lib.hid (show s.exp.tick ((m - s.left) % s.exp.left) = R by rw [← HE.out]; exact (Tm.tick_mod hE (by rw [hs]; exact hen) (by rw [hs]; exact hs) _ (by omega)).symm)
          have LF := Lib.hid (fun w => nLft s.exp w hE)
          clear hs
          go_simp
          refine wp_region_quiet_below (by kernel_rfl) (by kernel_rfl) ?_
          repeat (first
            | go_big_quiet_skip
            | (go_big_quiet_want; first
                | (refine qloadT (.tmp 37) rfl rfl aP.grown ?_; go_simp; go_big_quiet_on)
                | (refine qloadT (.tmp 4) rfl rfl aQ.grown ?_; go_simp; go_big_quiet_on)
                | (refine qeqT (.tmp 38) (.tmp 39) _ rfl rfl rfl ?_; go_simp; go_big_quiet_on)
                | (go_big_quiet_op; first | go_big_quiet_on)))
          refine wpQuiet_nil ?_
          intro _ hw'
          obtain ⟨⟨dq, osq⟩, hw''⟩ := hw'
          subst hw''
          have hbr := below_regrown W4 dq osq
          have a1 := aP.below hbr
          have ho1 := ho.trans (Off.ofBelow hbr)
          clear aP aQ ho hbr HE
          go_wp2_with (refine loadT rfl (.tmp 44) rfl rfl a1 ?_)
          refine (LF.out _).mono ?_
          rintro e W5 ⟨rfl, hb⟩
          have a := a1.below hb
          have ho := ho1.trans (Off.ofBelow hb)
          clear a1 ho1 hb
          go_wp2_with fail
          go_roundw
          case rel => exact ⟨(m - s.left) % s.exp.left, s.exp, rfl, hm.1, by omega, hE, a, ho, HE2⟩
          case measure => simp [intOf]; omega
      · go_wp2_with fail
        refine (RN.out _ a).mono ?_
        rintro e w1 ⟨rfl, hb⟩
        have a1 := a.below hb
        have ho1 := ho.trans (Off.ofBelow hb)
        clear a hb ho
        go_wp2_with (refine loadT rfl (.tmp 53) rfl rfl a1 ?_)
        refine (nLat s m _ h m0 (by omega)).mono ?_
        rintro e w2 ⟨rfl, hb⟩
        have a := a1.below hb
        have ho := ho1.trans (Off.ofBelow hb)
        clear a1 hb ho1
        go_wp2_with (refine storeT rfl (.tmp 58) (.tmp 56) rfl rfl rfl a ?_)
        go_end0
        refine ⟨rfl, ?_, ho.trans (off_row _ _ _)⟩
        rw [← HR.out, Tm.tick_lt hen (by omega)]; exact TAt.row a _
theorem nTickNil (n : Int) (w : World) : Calls Try.prog 36 #[.pointer none, .int .u64 n] w fun e w' => e = .returned (.tuple #[]) ∧ w = w' := by
  go_enter Try.func36, Try.ntmps36
  go_wp2_with fail
  refine wp_loop_rounds 1 ?_
  rw [rounds_succ]
  go_wp2_with fail
  refine (nRunsNil w).mono ?_
  rintro e w1 ⟨rfl, rfl⟩
  go_wp2_with fail
  refine (nRunsNil w).mono ?_
  rintro e w1 ⟨rfl, rfl⟩
  go_wp2_with fail
  go_end0
  exact ⟨rfl, rfl⟩
end Go.Proofs.Ytijjapmdkalfaaa.B
