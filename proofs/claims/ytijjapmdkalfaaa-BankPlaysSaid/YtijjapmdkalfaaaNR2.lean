/- The document's own answers of layer 6: a tick, a register read. -/
import Derived.Test.YtijjapmdkalfaaaNR
namespace Go.Proofs.Ytijjapmdkalfaaa.B
set_option linter.unusedVariables false
set_option linter.unusedSimpArgs false
open Go.ChangeShapes Go.WideShapes Go.RowKit Go.Sort
set_option maxHeartbeats 800000 in
theorem mOne (t : Tm) (w : World) (h : t.ok) : Calls Try.prog 52 #[.agg (rl t).toArray] w fun e w' => e = .returned (.agg (rl t.one).toArray) ∧ Below w.heap.size w w' := by
  have hB := trA (trA (tr0 w) (oM t)) zM
  have X : MAt ((w.alloc (oM t)).alloc zM) w.heap.size t := b2_0 w (oM t) zM
  have Y : MAt ((w.alloc (oM t)).alloc zM) (w.heap.size + 1) tz := b2_1 w (oM t) zM
  obtain ⟨l0, l1, v0, v1, s0, s1, p0, p1⟩ := h
  obtain ⟨R, hR⟩ : ∃ R, t.one = R := ⟨_, rfl⟩
  rw [hR]
  have HR := Lib.hid hR
  clear hR
  obtain ⟨ld, v, en, re, iq, sc, ph, st⟩ := t
  simp only at l0 l1 v0 v1 s0 s1 p0 p1
  have x2 := X.c2
  have x6 := X.c6
  have f6 := X.free 6
  simp only at x2 x6
  cases en
  · clear x6 f6
    go_enter Try.func52, Try.ntmps52
    go_upto_region 1 with (fail)
    rw [show Obj.cells (rl ⟨ld, v, false, re, iq, sc, ph, st⟩).toArray 48 (0, 0) = oM ⟨ld, v, false, re, iq, sc, ph, st⟩ from rfl, zM_eq]
    generalize ((w.alloc (oM ⟨ld, v, false, re, iq, sc, ph, st⟩)).alloc zM) = W at *
    have Z := MAt.row Y ⟨ld, v, false, re, iq, sc, ph, st⟩
    have hB2 := below_setRow hB (rl ⟨ld, v, false, re, iq, sc, ph, st⟩).toArray (g := w.heap.size + 1) (by omega)
    go_wp2_with (first | (refine loadM rfl (.tmp 1) rfl rfl X ?_) | (refine storeM rfl (.tmp 2) (.tmp 6) rfl rfl (t := ⟨ld, v, false, re, iq, sc, ph, st⟩) rfl Y ?_))
    refine bodyPost_ret (resM rfl _ _ rfl Z) rfl ⟨?_, hB2⟩
    rw [← HR.out]
    rfl
  · have q0 : ph + 1 < 4294967296 := by omega
    go_enter Try.func52, Try.ntmps52
    go_upto_region 1 with (fail)
    rw [show Obj.cells (rl ⟨ld, v, true, re, iq, sc, ph, st⟩).toArray 48 (0, 0) = oM ⟨ld, v, true, re, iq, sc, ph, st⟩ from rfl, zM_eq]
    generalize ((w.alloc (oM ⟨ld, v, true, re, iq, sc, ph, st⟩)).alloc zM) = W at *
    go_upto_region 4 with (fail)
    have X1 : MAt _ _ ⟨ld, v, true, re, iq, sc, ph + 1, st⟩ := (X.s6 (ph + 1))
    have Y1 := (Y.other w.heap.size 6 (.int .u32 (ph + 1)) (by omega))
    have hB1 := (hB.setCell (p := ⟨w.heap.size, 6, none⟩) (by simp) (.int .u32 (ph + 1)))
    clear X Y hB x2 x6 f6
    have X := X1
    have Y := Y1
    have hB := hB1
    clear X1 Y1 hB1
    generalize (W.setCell ⟨w.heap.size, 6, none⟩ (.int .u32 (ph + 1))) = W2 at *
    have x5 := X.c5
    have x6 := X.c6
    simp only at x5 x6
    by_cases hp : ph < sc
    · have hle : ph + 1 ≤ sc := by omega
      have Z := MAt.row Y ⟨ld, v, true, re, iq, sc, ph + 1, st⟩
      have hB2 := below_setRow hB (rl ⟨ld, v, true, re, iq, sc, ph + 1, st⟩).toArray (g := w.heap.size + 1) (by omega)
      go_wp2_with (first | (refine loadM rfl (.tmp 1) rfl rfl X ?_) | (refine storeM rfl (.tmp 2) (.tmp 16) rfl rfl (t := ⟨ld, v, true, re, iq, sc, ph + 1, st⟩) rfl Y ?_))
      refine bodyPost_ret (resM rfl _ _ rfl Z) rfl ⟨?_, hB2⟩
      rw [← HR.out]
      unfold Tm.one; rw [if_pos rfl, if_pos (show ph < sc by omega)]
    · have hle : ¬ ph + 1 ≤ sc := by omega
      have f6 := X.free 6
      go_upto_region 7 with (fail)
      have X1 : MAt _ _ ⟨ld, v, true, re, iq, sc, 0, st⟩ := (X.s6 (0))
      have Y1 := (Y.other w.heap.size 6 (.int .u32 (0)) (by omega))
      have hB1 := (hB.setCell (p := ⟨w.heap.size, 6, none⟩) (by simp) (.int .u32 (0)))
      clear X Y hB x5 x6 f6
      have X := X1
      have Y := Y1
      have hB := hB1
      clear X1 Y1 hB1
      generalize (W2.setCell ⟨w.heap.size, 6, none⟩ (.int .u32 (0))) = W3 at *
      have x1 := X.c1
      have f1 := X.free 1
      simp only at x1
      by_cases hv : 1 < v
      · skip
        go_upto_region 9 with (fail)
        have X1 : MAt _ _ ⟨ld, v - 1, true, re, iq, sc, 0, st⟩ := (X.s1 (v - 1))
        have Y1 := (Y.other w.heap.size 1 (.int .u32 (v - 1)) (by omega))
        have hB1 := (hB.setCell (p := ⟨w.heap.size, 1, none⟩) (by simp) (.int .u32 (v - 1)))
        clear X Y hB x1 f1
        have X := X1
        have Y := Y1
        have hB := hB1
        clear X1 Y1 hB1
        generalize (W3.setCell ⟨w.heap.size, 1, none⟩ (.int .u32 (v - 1))) = W4 at *
        have Z := MAt.row Y ⟨ld, v - 1, true, re, iq, sc, 0, st⟩
        have hB2 := below_setRow hB (rl ⟨ld, v - 1, true, re, iq, sc, 0, st⟩).toArray (g := w.heap.size + 1) (by omega)
        go_wp2_with (first | (refine loadM rfl (.tmp 1) rfl rfl X ?_) | (refine storeM rfl (.tmp 2) (.tmp 25) rfl rfl (t := ⟨ld, v - 1, true, re, iq, sc, 0, st⟩) rfl Y ?_))
        refine bodyPost_ret (resM rfl _ _ rfl Z) rfl ⟨?_, hB2⟩
        rw [← HR.out]
        unfold Tm.one; rw [if_pos rfl, if_neg (show ¬ ph < sc by omega), if_pos (show 1 < v by omega)]
      · have x7 := X.c7
        have f7 := X.free 7
        simp only at x7
        go_upto_region 11 with (fail)
        have X1 : MAt _ _ ⟨ld, v, true, re, iq, sc, 0, true⟩ := (X.s7 (true))
        have Y1 := (Y.other w.heap.size 7 (.bool true) (by omega))
        have hB1 := (hB.setCell (p := ⟨w.heap.size, 7, none⟩) (by simp) (.bool true))
        clear X Y hB x1 f1 x7 f7
        have X := X1
        have Y := Y1
        have hB := hB1
        clear X1 Y1 hB1
        generalize (W3.setCell ⟨w.heap.size, 7, none⟩ (.bool true)) = W4 at *
        have x0 := X.c0
        have x1 := X.c1
        have x2 := X.c2
        have x3 := X.c3
        have x6 := X.c6
        have f1 := X.free 1
        have f2 := X.free 2
        have f6 := X.free 6
        simp only at x0 x1 x2 x3 x6
        cases re
        · skip
          go_upto_region 15 with (fail)
          have X1 : MAt _ _ ⟨ld, 0, false, false, iq, sc, 0, true⟩ := (((X.s1 (0)).s2 (false)).s6 (0))
          have Y1 := (((Y.other w.heap.size 1 (.int .u32 (0)) (by omega)).other w.heap.size 2 (.bool false) (by omega)).other w.heap.size 6 (.int .u32 (0)) (by omega))
          have hB1 := (((hB.setCell (p := ⟨w.heap.size, 1, none⟩) (by simp) (.int .u32 (0))).setCell (p := ⟨w.heap.size, 2, none⟩) (by simp) (.bool false)).setCell (p := ⟨w.heap.size, 6, none⟩) (by simp) (.int .u32 (0)))
          clear X Y hB x0 x1 x2 x3 x6 f1 f2 f6
          have X := X1
          have Y := Y1
          have hB := hB1
          clear X1 Y1 hB1
          generalize (((W4.setCell ⟨w.heap.size, 1, none⟩ (.int .u32 (0))).setCell ⟨w.heap.size, 2, none⟩ (.bool false)).setCell ⟨w.heap.size, 6, none⟩ (.int .u32 (0))) = W5 at *
          have Z := MAt.row Y ⟨ld, 0, false, false, iq, sc, 0, true⟩
          have hB2 := below_setRow hB (rl ⟨ld, 0, false, false, iq, sc, 0, true⟩).toArray (g := w.heap.size + 1) (by omega)
          go_wp2_with (first | (refine loadM rfl (.tmp 1) rfl rfl X ?_) | (refine storeM rfl (.tmp 2) (.tmp 41) rfl rfl (t := ⟨ld, 0, false, false, iq, sc, 0, true⟩) rfl Y ?_))
          refine bodyPost_ret (resM rfl _ _ rfl Z) rfl ⟨?_, hB2⟩
          rw [← HR.out]
          unfold Tm.one Tm.exp; rw [if_pos rfl, if_neg (show ¬ ph < sc by omega), if_neg (show ¬ 1 < v by omega), if_neg (by simp)]
        · by_cases hl : ld = 0
          · subst hl
            go_upto_region 15 with (fail)
            have X1 : MAt _ _ ⟨0, 0, false, true, iq, sc, 0, true⟩ := (((X.s1 (0)).s2 (false)).s6 (0))
            have Y1 := (((Y.other w.heap.size 1 (.int .u32 (0)) (by omega)).other w.heap.size 2 (.bool false) (by omega)).other w.heap.size 6 (.int .u32 (0)) (by omega))
            have hB1 := (((hB.setCell (p := ⟨w.heap.size, 1, none⟩) (by simp) (.int .u32 (0))).setCell (p := ⟨w.heap.size, 2, none⟩) (by simp) (.bool false)).setCell (p := ⟨w.heap.size, 6, none⟩) (by simp) (.int .u32 (0)))
            clear X Y hB x0 x1 x2 x3 x6 f1 f2 f6
            have X := X1
            have Y := Y1
            have hB := hB1
            clear X1 Y1 hB1
            generalize (((W4.setCell ⟨w.heap.size, 1, none⟩ (.int .u32 (0))).setCell ⟨w.heap.size, 2, none⟩ (.bool false)).setCell ⟨w.heap.size, 6, none⟩ (.int .u32 (0))) = W5 at *
            have Z := MAt.row Y ⟨0, 0, false, true, iq, sc, 0, true⟩
            have hB2 := below_setRow hB (rl ⟨0, 0, false, true, iq, sc, 0, true⟩).toArray (g := w.heap.size + 1) (by omega)
            go_wp2_with (first | (refine loadM rfl (.tmp 1) rfl rfl X ?_) | (refine storeM rfl (.tmp 2) (.tmp 41) rfl rfl (t := ⟨0, 0, false, true, iq, sc, 0, true⟩) rfl Y ?_))
            refine bodyPost_ret (resM rfl _ _ rfl Z) rfl ⟨?_, hB2⟩
            rw [← HR.out]
            unfold Tm.one Tm.exp; rw [if_pos rfl, if_neg (show ¬ ph < sc by omega), if_neg (show ¬ 1 < v by omega), if_neg (by simp)]
          · have hl2 : (ld == 0) = false := by simpa using hl
            have hl3 : (ld != 0) = true := by simpa using hl
            go_upto_region 13 with (fail)
            have X1 : MAt _ _ ⟨ld, ld, true, true, iq, sc, 0, true⟩ := (X.s1 (ld))
            have Y1 := (Y.other w.heap.size 1 (.int .u32 (ld)) (by omega))
            have hB1 := (hB.setCell (p := ⟨w.heap.size, 1, none⟩) (by simp) (.int .u32 (ld)))
            clear X Y hB x0 x1 x2 x3 x6 f1 f2 f6
            have X := X1
            have Y := Y1
            have hB := hB1
            clear X1 Y1 hB1
            generalize (W4.setCell ⟨w.heap.size, 1, none⟩ (.int .u32 (ld))) = W5 at *
            have Z := MAt.row Y ⟨ld, ld, true, true, iq, sc, 0, true⟩
            have hB2 := below_setRow hB (rl ⟨ld, ld, true, true, iq, sc, 0, true⟩).toArray (g := w.heap.size + 1) (by omega)
            go_wp2_with (first | (refine loadM rfl (.tmp 1) rfl rfl X ?_) | (refine storeM rfl (.tmp 2) (.tmp 37) rfl rfl (t := ⟨ld, ld, true, true, iq, sc, 0, true⟩) rfl Y ?_))
            refine bodyPost_ret (resM rfl _ _ rfl Z) rfl ⟨?_, hB2⟩
            rw [← HR.out]
            unfold Tm.one Tm.exp; rw [if_pos rfl, if_neg (show ¬ ph < sc by omega), if_neg (show ¬ 1 < v by omega), if_pos (by simp [hl])]
theorem mLoad (t : Tm) (o : Int) (w : World) (h : t.ok) (o0 : 0 ≤ o) (o1 : o < 4294967296) :
    Calls Try.prog 38 #[.agg (rl t).toArray, .int .u32 o] w fun e w' => e = .returned (.tuple #[.int .u32 (t.val o), .int .i64 (nErr o)]) ∧ Below w.heap.size w w' := by
  have hB := trA (tr0 w) (oM t)
  have X : MAt (w.alloc (oM t)) w.heap.size t := blk_new w (oM t)
  obtain ⟨l0, l1, v0, v1, s0, s1, p0, p1⟩ := h
  have hw := X.lt
  have x0 := X.c0
  have x1 := X.c1
  have x2 := X.c2
  have x3 := X.c3
  have x4 := X.c4
  have x5 := X.c5
  have x7 := X.c7
  by_cases h4 : o % 4 = 0
  · have n4 : (o % 4 != 0) = false := by simpa using h4
    by_cases h16 : o < 16
    · rcases (show o = 0 ∨ o = 4 ∨ o = 8 ∨ o = 12 by omega) with rfl | rfl | rfl | rfl
      · go_enter Try.func38, Try.ntmps38
        go_upto_region 1 with (fail)
        rw [show Obj.cells (rl t).toArray 48 (0, 0) = oM t from rfl]
        generalize (w.alloc (oM t)) = W at *
        go_wp2_with fail
        go_ret2
        exact ⟨rfl, hB⟩
      · go_enter Try.func38, Try.ntmps38
        go_upto_region 1 with (fail)
        rw [show Obj.cells (rl t).toArray 48 (0, 0) = oM t from rfl]
        generalize (w.alloc (oM t)) = W at *
        go_wp2_with fail
        go_ret2
        exact ⟨rfl, hB⟩
      · have hW := Lib.hid rWordM
        have hv : t.val 8 = (if t.en = true then 1 else 0) + (if t.re = true then 2 else 0) + (if t.iq = true then 4 else 0) + 256 * t.sc := by
          show ctl t.en t.re t.iq t.sc = _
          unfold ctl tk
          cases t.en <;> cases t.re <;> cases t.iq <;> simp
        have hc := ctl_bounds t.en t.re t.iq t.sc s0 s1
        obtain ⟨V, hV⟩ : ∃ V, t.val 8 = V := ⟨_, rfl⟩
        rw [hV] at hv ⊢
        obtain ⟨a, ha⟩ : ∃ a : Int, (if t.en = true then (1 : Int) else 0) = a := ⟨_, rfl⟩
        obtain ⟨b, hb⟩ : ∃ b : Int, (if t.re = true then (2 : Int) else 0) = b := ⟨_, rfl⟩
        obtain ⟨c, hcc⟩ : ∃ c : Int, (if t.iq = true then (4 : Int) else 0) = c := ⟨_, rfl⟩
        have ha2 : 0 ≤ a ∧ a ≤ 1 := by rw [← ha]; split <;> omega
        have hb2 : 0 ≤ b ∧ b ≤ 2 := by rw [← hb]; split <;> omega
        have hc2 : 0 ≤ c ∧ c ≤ 4 := by rw [← hcc]; split <;> omega
        rw [ha, hb, hcc] at hv
        have HV := Lib.hid hv
        have W1 := Lib.hid (fun w => by have := rWordM t.en 1 w; rw [ha] at this; exact this)
        have W2 := Lib.hid (fun w => by have := rWordM t.re 2 w; rw [hb] at this; exact this)
        have W3 := Lib.hid (fun w => by have := rWordM t.iq 4 w; rw [hcc] at this; exact this)
        clear hv ha hb hcc hV hW hc
        go_enter Try.func38, Try.ntmps38
        go_upto_region 1 with (fail)
        rw [show Obj.cells (rl t).toArray 48 (0, 0) = oM t from rfl]
        generalize (w.alloc (oM t)) = W at *
        go_wp2_with fail
        have hg := gcell
        refine wp_region_quiet_below (by kernel_rfl) (by kernel_rfl) ?_
        repeat (go_big_quiet_step (first
          | (go_at_call 51; exact Calls.regrown_of ((W1.out _).mono fun e w' h => ⟨h.1, h.2 ▸ tr0 _⟩))
          | (go_at_call 51; exact Calls.regrown_of ((W2.out _).mono fun e w' h => ⟨h.1, h.2 ▸ tr0 _⟩))
          | (go_at_call 51; exact Calls.regrown_of ((W3.out _).mono fun e w' h => ⟨h.1, h.2 ▸ tr0 _⟩))))
        refine wpQuiet_nil ?_
        intro _ hw'
        obtain ⟨⟨dq, osq⟩, hw''⟩ := hw'
        subst hw''
        go_wp2_with fail
        go_ret2
        exact ⟨by rw [HV.out]; rfl, trG hB _ _⟩
      · have hv : (if t.st = true then (1 : Int) else 0) = t.val 12 := by
          show _ = tk t.st
          unfold tk; cases t.st <;> simp
        have hW := Lib.hid (fun w => by have := rWordM t.st 1 w; rw [hv] at this; exact this)
        clear hv
        go_enter Try.func38, Try.ntmps38
        go_upto_region 1 with (fail)
        rw [show Obj.cells (rl t).toArray 48 (0, 0) = oM t from rfl]
        generalize (w.alloc (oM t)) = W at *
        go_wp2_with (go_at_call 51; refine (hW.out _).mono ?_; rintro e w1 ⟨rfl, rfl⟩)
        go_ret2
        exact ⟨rfl, hB⟩
    · have he : nErr o = 10 := by unfold nErr; rw [n4, if_neg (by simp), if_pos (by omega)]
      have hv : t.val o = 0 := by unfold Tm.val; rw [he]; rfl
      rw [he, hv]
      have q0 : (o == 0) = false := by simp; omega
      have q4 : (o == 4) = false := by simp; omega
      have q8 : (o == 8) = false := by simp; omega
      have q12 : (o == 12) = false := by simp; omega
      clear he hv
      go_enter Try.func38, Try.ntmps38
      go_upto_region 1 with (fail)
      rw [show Obj.cells (rl t).toArray 48 (0, 0) = oM t from rfl]
      generalize (w.alloc (oM t)) = W at *
      go_wp2_with fail
      go_ret2
      exact ⟨rfl, hB⟩
  · have n4 : (o % 4 != 0) = true := by simpa using h4
    have he : nErr o = 11 := by unfold nErr; rw [n4, if_pos rfl]
    have hv : t.val o = 0 := by unfold Tm.val; rw [he]; rfl
    rw [he, hv]
    clear he hv
    go_enter Try.func38, Try.ntmps38
    go_upto_region 1 with (fail)
    rw [show Obj.cells (rl t).toArray 48 (0, 0) = oM t from rfl]
    generalize (w.alloc (oM t)) = W at *
    go_wp2_with fail
    go_ret2
    exact ⟨rfl, hB⟩
end Go.Proofs.Ytijjapmdkalfaaa.B
