/- What the words' later returns. -/
import Derived.Test.YtijjapmdkalfaaaNExp
namespace Go.Proofs.Ytijjapmdkalfaaa.B
set_option linter.unusedVariables false
set_option linter.unusedSimpArgs false
open Go.ChangeShapes Go.WideShapes Go.RowKit Go.Sort
theorem nPeriod5 (ld v c s ph sc : Int) (w : World) (c0 : 0 ≤ c) (c1 : c < 4294967296) (hs : field c 8 8 = sc) (s0 : 0 ≤ sc) (s1 : sc < 256) :
    Calls Try.prog 55 #[.agg (w5 ld v c s ph).toArray] w fun e w' => e = .returned (.int .u64 (sc + 1)) ∧ Below w.heap.size w w' :=
  nPeriod ld v c s ph sc w c0 c1 hs s0 s1
set_option maxHeartbeats 800000 in
theorem nLaterV (ld v c s ph sc n : Int) (w : World) (v1 : v < 4294967296) (c0 : 0 ≤ c) (c1 : c < 4294967296) (hs : field c 8 8 = sc) (s0 : 0 ≤ sc) (s1 : sc < 256) (p0 : 0 ≤ ph) (p1 : ph ≤ sc) (n0 : 0 ≤ n) (n1 : n < 1099511627776)
    (q0 : 0 ≤ (ph + n) / (sc + 1)) (q1 : (ph + n) / (sc + 1) ≤ v) :
    Calls Try.prog 50 #[.agg (w5 ld v c s ph).toArray, .int .u64 n] w fun e w' => e = .returned (.agg (w5 ld (v - (ph + n) / (sc + 1)) c s ((ph + n) % (sc + 1))).toArray) ∧ Below w.heap.size w w' := by
  have hp := Lib.hid (fun v ph w => nPeriod5 ld v c s ph sc w c0 c1 hs s0 s1)
  clear hs
  have hB := trA (trA (tr0 w) (.cells (w5 ld v c s ph).toArray 77 (0, 0))) (.cells (w5 0 0 0 0 0).toArray 77 (0, 0))
  have X : A5 _ _ _ ld v c s ph := b2_0 w (.cells (w5 ld v c s ph).toArray 77 (0, 0)) (.cells (w5 0 0 0 0 0).toArray 77 (0, 0))
  have Y : A5 _ _ _ 0 0 0 0 0 := b2_1 w (.cells (w5 ld v c s ph).toArray 77 (0, 0)) (.cells (w5 0 0 0 0 0).toArray 77 (0, 0))
  go_enter Try.func50, Try.ntmps50
  go_upto_region 1 with (fail)
  rw [zW_eq]
  generalize ((w.alloc (.cells (w5 ld v c s ph).toArray 77 (0, 0))).alloc (.cells (w5 0 0 0 0 0).toArray 77 (0, 0))) = W at *
  have x4 := X.c4
  go_upto_region 2 with (fail)
  have hr : 0 ≤ (ph + n) % (sc + 1) ∧ (ph + n) % (sc + 1) < sc + 1 := mod_bounds (by omega)
  have hl : lo ((ph + n) / (sc + 1)) = (ph + n) / (sc + 1) := by unfold lo; omega
  have hLo := Lib.hid (fun w => by have := Lo ((ph + n) / (sc + 1)) w q0 (by omega); rw [hl] at this; exact this)
  have hk : 0 ≤ v - (ph + n) / (sc + 1) ∧ v - (ph + n) / (sc + 1) < 4294967296 := by omega
  clear hl
  have hX := X.lt
  have hY := Y.lt
  have x0 := X.c0
  have x1 := X.c1
  have x2 := X.c2
  have x3 := X.c3
  have f1 := X.free 1
  have hg := gcell
  have hf := gfrozen
  have HX := Lib.hid X
  have HY := Lib.hid Y
  clear X Y
  refine wp_region_tail_below 11 (by kernel_rfl) (by kernel_rfl) ?_
  simp only [List.take_succ_cons, List.take_zero, List.drop_succ_cons, List.drop_zero]
  repeat (first
    | go_big_quiet_skip
    | (go_big_quiet_want; first
        | (refine qloadW (.tmp 2) rfl rfl (grown_block HX.out) ?_; go_simp; go_big_quiet_on)
        | (go_big_quiet_op; first
            | go_big_quiet_on
            | go_big_quiet_call (first
                | (go_at_call 55; exact Calls.regrown_of (hp.out _ _ _))
                | (go_at_call 57; exact Calls.regrown_of ((hLo.out _).mono fun e w' h => ⟨h.1, h.2 ▸ tr0 _⟩))))))
  refine wpQuiet_nil ?_
  intro _ hw'
  obtain ⟨⟨dq, osq⟩, hw''⟩ := hw'
  subst hw''
  obtain ⟨V, hV⟩ : ∃ V, v - (ph + n) / (sc + 1) = V := ⟨_, rfl⟩
  obtain ⟨R, hR⟩ : ∃ R, (ph + n) % (sc + 1) = R := ⟨_, rfl⟩
  rw [hV]
  go_upto_region 3 with (fail)
  have hbr := below_regrown W dq osq
  have X := (HX.out.below hbr).s1 V
  have Y := (HY.out.below hbr).other w.heap.size 1 (.int .u32 V) (by omega)
  have hB := (tr hB hbr).setCell (p := ⟨w.heap.size, 1, none⟩) (by simp) (.int .u32 V)
  clear HX HY x0 x1 x2 x3 x4 f1 hg hf hbr hX hY hLo
  generalize ((grow (redrawn W dq) osq).setCell ⟨w.heap.size, 1, none⟩ (.int .u32 V)) = W2 at *
  have HV := Lib.hid hV
  have HR := Lib.hid hR
  clear q0 q1 hk hV
  go_wp2_with (refine loadW rfl (.tmp 2) rfl rfl X ?_)
  refine (hp.out _ _ _).mono ?_
  rintro e W3 ⟨rfl, hb⟩
  have X1 := X.below hb
  have Y1 := Y.below hb
  have hB1 := tr hB hb
  clear X Y hB hb
  have f4 := X1.free 4
  have x4 := X1.c4
  go_upto_region 4 with (fail)
  rw [hR]
  clear hR hr
  have X2 := X1.s4 R
  have Y2 := Y1.other w.heap.size 4 (.int .u64 R) (by omega)
  have hB2 := hB1.setCell (p := ⟨w.heap.size, 4, none⟩) (by simp) (.int .u64 R)
  clear X1 Y1 hB1 f4 x4
  generalize W3.setCell ⟨w.heap.size, 4, none⟩ (.int .u64 R) = W4 at *
  have Y3 := A5.row Y2 ld V c s R
  have hB3 := below_setRow hB2 (w5 ld V c s R).toArray (g := w.heap.size + 1) (by omega)
  go_wp2_with (first | (refine loadW rfl (.tmp 2) rfl rfl X2 ?_) | (refine storeW rfl (.tmp 4) (.tmp 26) rfl rfl rfl Y2 ?_))
  refine bodyPost_ret (resW rfl _ _ rfl Y3) rfl ⟨by rw [← HV.out, ← HR.out], hB3⟩
theorem nLat (t : Tm) (n : Int) (w : World) (h : t.ok) (n0 : 0 ≤ n) (hn : n < t.left) : Calls Try.prog 50 #[.agg (wl t).toArray, .int .u64 n] w fun e w' => e = .returned (.agg (wl (t.lat n)).toArray) ∧ Below w.heap.size w w' := by
  have hs := steps_bounds h.v0 h.s0 h.p0 n0 hn
  have hl := h.left
  exact nLaterV t.ld t.v (ctl t.en t.re t.iq t.sc) (tk t.st) t.ph t.sc n w h.v1 h.c.1 h.c.2 (ctl_field _ _ _ _ h.s0 h.s1) h.s0 h.s1 h.p0 h.p1 n0 (by omega) hs.1 hs.2.2
end Go.Proofs.Ytijjapmdkalfaaa.B
