/- The document's own answers of layer 6: many ticks. -/
import Derived.Test.YtijjapmdkalfaaaNR3
namespace Go.Proofs.Ytijjapmdkalfaaa.B
set_option linter.unusedVariables false
set_option linter.unusedSimpArgs false
open Go.ChangeShapes Go.WideShapes Go.RowKit Go.Sort
theorem Tm.exp_left2 {t : Tm} (he : t.exp.en = true) (o : t.ok) : t.exp.left = t.exp.ld * (t.exp.sc + 1) := by
  have h := Tm.exp_left he o.l0
  have e1 : t.exp.ld = t.ld := by unfold Tm.exp; split <;> rfl
  have e2 : t.exp.sc = t.sc := by unfold Tm.exp; split <;> rfl
  rw [e1, e2]; exact h.1
/-- The end of the last ticks, by their numbers. -/
theorem lat_eq (s : Tm) (m V F : Int) (hV : s.v - (s.ph + m) / (s.sc + 1) = V) (hF : (s.ph + m) % (s.sc + 1) = F) : ({ s with v := V, ph := F } : Tm) = s.lat m := by
  subst hV hF; rfl
set_option maxHeartbeats 1600000 in
theorem mTick (t : Tm) (n : Int) (w : World) (h : t.ok) (n0 : 0 ≤ n) (n1 : n < 18446744073709551616) :
    Calls Try.prog 43 #[.agg (rl t).toArray, .int .u64 n] w fun e w' => e = .returned (.agg (rl (t.tick n)).toArray) ∧ Below w.heap.size w w' := by
  obtain ⟨R, hR⟩ : ∃ R, t.tick n = R := ⟨_, rfl⟩
  rw [hR]
  have HR := Lib.hid hR
  clear hR
  have hB := trA (trA (tr0 w) (oM t)) zM
  have X : MAt ((w.alloc (oM t)).alloc zM) w.heap.size t := b2_0 w (oM t) zM
  have Y : MAt ((w.alloc (oM t)).alloc zM) (w.heap.size + 1) tz := b2_1 w (oM t) zM
  go_enter Try.func43, Try.ntmps43
  go_upto_region 1 with (fail)
  rw [show Obj.cells (rl t).toArray 48 (0, 0) = oM t from rfl, zM_eq]
  generalize ((w.alloc (oM t)).alloc zM) = W at *
  go_loopw [1] (fun x wr => ∃ (m : Int) (s : Tm), x = .int .u64 m ∧ 0 ≤ m ∧ m < 18446744073709551616 ∧ s.ok ∧ MAt wr w.heap.size s ∧ MAt wr (w.heap.size + 1) tz ∧ Below w.heap.size w wr ∧ Hid (s.tick m = R)) (fun x wr => (intOf x).toNat)
  case atStart => exact ⟨n, t, rfl, n0, n1, h, X, Y, hB, HR⟩
  case round =>
    clear X Y hB h HR n0 n1
    obtain ⟨m, s, rfl, m0, m1, h, X, Y, hB, HR⟩ := hrel
    have hL := h.left
    have x2 := X.c2
    by_cases hm : m = 0
    · subst hm
      have hs : s = R := by rw [← HR.out, Tm.tick_zero h]
      have Z := MAt.row Y s
      have hB2 := below_setRow hB (rl s).toArray (g := w.heap.size + 1) (by omega)
      cases hen : s.en
      all_goals
        rw [hen] at x2
        go_wp2_with (first | (refine loadM rfl (.tmp 2) rfl rfl X ?_) | (refine storeM rfl (.tmp 4) (.tmp 48) rfl rfl (t := s) rfl Y ?_))
        refine bodyPost_ret (resM rfl _ _ rfl Z) rfl ⟨by rw [hs], hB2⟩
    · have hm2 : 0 < m := by omega
      have hm3 : (m == 0) = false := by simpa using hm
      clear hm
      cases hen : s.en
      · rw [hen] at x2
        have hs : s = R := by rw [← HR.out, Tm.tick_off hen]
        have Z := MAt.row Y s
        have hB2 := below_setRow hB (rl s).toArray (g := w.heap.size + 1) (by omega)
        clear HR
        go_wp2_with (first | (refine loadM rfl (.tmp 2) rfl rfl X ?_) | (refine storeM rfl (.tmp 4) (.tmp 48) rfl rfl (t := s) rfl Y ?_))
        refine bodyPost_ret (resM rfl _ _ rfl Z) rfl ⟨by rw [hs], hB2⟩
      · rw [hen] at x2
        have LF : Hid (∀ w, Calls Try.prog 40 #[.agg (rl s).toArray] w fun e w' => e = .returned (.int .u64 s.left) ∧ Below w.heap.size w w') :=
          Lib.hid (fun w => by have := mLeft s w h; unfold Tm.lef at this; rw [if_pos hen] at this; exact this)
        go_wp2_with (refine loadMg (.tmp 2) rfl rfl rfl X ?_)
        refine (LF.out _).mono ?_
        rintro e W1 ⟨rfl, hb⟩
        have X1 := X.below hb
        have Y1 := Y.below hb
        have hB1 := tr hB hb
        clear X Y hB hb x2
        by_cases hle : s.left ≤ m
        · have HE := Lib.hid (show s.exp.tick (m - s.left) = R by rw [← Tm.tick_ge h hen hle]; exact HR.out)
          clear HR
          go_wp2_with (refine loadM rfl (.tmp 2) rfl rfl X1 ?_)
          refine (LF.out _).mono ?_
          rintro e W2 ⟨rfl, hb⟩
          have X := X1.below hb
          have Y := Y1.below hb
          have hB := tr hB1 hb
          clear X1 Y1 hB1 hb LF
          have x1 := X.c1
          have x5 := X.c5
          have x6 := X.c6
          have f1 := X.free 1
          have f6 := X.free 6
          go_upto_region 4 with (fail)
          have X1 : MAt _ _ { s with v := 1, ph := s.sc } := (X.s6 s.sc).s1 1
          have Y1 := (Y.other w.heap.size 6 (.int .u32 s.sc) (by omega)).other w.heap.size 1 (.int .u32 1) (by omega)
          have hB1 := (hB.setCell (p := ⟨w.heap.size, 6, none⟩) (by simp) (.int .u32 s.sc)).setCell (p := ⟨w.heap.size, 1, none⟩) (by simp) (.int .u32 1)
          clear X Y hB x1 x5 x6 f1 f6
          generalize ((W2.setCell ⟨w.heap.size, 6, none⟩ (.int .u32 s.sc)).setCell ⟨w.heap.size, 1, none⟩ (.int .u32 1)) = W3 at *
          have ho : ({ s with v := 1, ph := s.sc } : Tm).ok := ⟨h.l0, h.l1, by show (0 : Int) ≤ 1; omega, by show (1 : Int) < 4294967296; omega, h.s0, h.s1, h.s0, Int.le_refl _⟩
          have ON := Lib.hid (fun w => by have := mOne { s with v := 1, ph := s.sc } w ho; rw [Tm.one_exp hen] at this; exact this)
          have hEo := Tm.exp_ok h
          have hEL := hEo.left
          have HX : Hid (s.exp.en = true → s.exp.left = s.exp.ld * (s.exp.sc + 1)) := Lib.hid fun he => Tm.exp_left2 he h
          have HM : Hid (s.exp.en = true → s.exp.exp = s.exp) := Lib.hid fun he => (Tm.exp_again he hen).1
          clear h ho
          generalize ({ s with v := 1, ph := s.sc } : Tm) = s1 at *
          generalize s.exp = E at *
          go_wp2_with (refine loadM rfl (.tmp 2) rfl rfl X1 ?_)
          refine (ON.out _).mono ?_
          rintro e W4 ⟨rfl, hb⟩
          have X2 := X1.below hb
          have Y2 := Y1.below hb
          have hB2 := tr hB1 hb
          clear X1 Y1 hB1 hb ON
          have X := MAt.row X2 E
          have Y := Y2.elseRow w.heap.size (rl E).toArray (by omega)
          have hB := below_setRow hB2 (rl E).toArray (Nat.le_refl w.heap.size)
          go_upto_region 5 with (refine storeM rfl (.tmp 2) (.tmp 28) rfl rfl rfl X2 ?_)
          clear X2 Y2 hB2
          generalize W4.setRow w.heap.size (rl E).toArray = W5 at *
          have x0 := X.c0
          have x2 := X.c2
          have x5 := X.c5
          cases hE : E.en
          · rw [hE] at x2
            go_wp2_with fail
            go_roundw
            case rel => exact ⟨m - s.left, E, rfl, by omega, by omega, hEo, X, Y, hB, HE⟩
            case measure => simp [intOf]; omega
          · rw [hE] at x2
            have hx := HX.out hE
            have hm := mod_bounds (a := m - s.left) (u := E.left) (by omega)
            have hm4 : (m - s.left) % E.left ≤ m - s.left := by
              by_cases c : m - s.left < E.left
              · rw [Int.emod_eq_of_lt (by omega) c]; omega
              · omega
            have HE2 := Lib.hid (show E.tick ((m - s.left) % E.left) = R by rw [← HE.out]; exact (Tm.tick_mod hEo hE (HM.out hE) _ (by omega)).symm)
            rw [hx] at hm hm4 HE2 hEL
            obtain ⟨l0, l1, v0, v1, s0, s1, p0, p1⟩ := hEo
            have hq : (E.ld * (E.sc + 1) == 0) = false := by simp only [beq_eq_false_iff_ne, ne_eq]; omega
            clear HX HM HE hx
            go_wp2_with fail
            go_roundw
            case rel => exact ⟨(m - s.left) % (E.ld * (E.sc + 1)), E, rfl, hm.1, by omega, ⟨l0, l1, v0, v1, s0, s1, p0, p1⟩, X, Y, hB, HE2⟩
            case measure => simp [intOf]; omega
        · have hst := steps_bounds h.v0 h.s0 h.p0 m0 (show m < lft s.v s.sc s.ph by show m < s.left; omega)
          have hmb := mod_bounds (a := s.ph + m) (u := s.sc + 1) (by have := h.s0; omega)
          have HV := HR.out
          rw [Tm.tick_lt hen (by omega)] at HV
          have X := X1
          have Y := Y1
          have hB := hB1
          clear X1 Y1 hB1 HR LF
          have hX := X.lt
          have x1 := X.c1
          have x2 := X.c2
          rw [hen] at x2
          have x5 := X.c5
          have x6 := X.c6
          have f1 := X.free 1
          obtain ⟨l0, l1, v0, v1, s0, s1, p0, p1⟩ := h
          obtain ⟨q0, q1, q2⟩ := hst
          obtain ⟨V, hV⟩ : ∃ V, s.v - (s.ph + m) / (s.sc + 1) = V := ⟨_, rfl⟩
          obtain ⟨F, hF⟩ : ∃ F, (s.ph + m) % (s.sc + 1) = F := ⟨_, rfl⟩
          have HR := Lib.hid (show ({ s with v := V, ph := F } : Tm) = R by rw [← HV]; exact lat_eq s m V F hV hF)
          clear HV
          have hmm : m < 1099511627776 := by omega
          go_upto_region 11 with (fail)
          have hg := gcell
          have hf := gfrozen
          refine wp_region_tail_below 8 (by kernel_rfl) (by kernel_rfl) ?_
          simp only [List.take_succ_cons, List.take_zero, List.drop_succ_cons, List.drop_zero]
          repeat (go_big_quiet_step (fail))
          refine wpQuiet_nil ?_
          intro _ hw'
          obtain ⟨⟨dq, osq⟩, hw''⟩ := hw'
          subst hw''
          go_upto_region 12 with (fail)
          have hbr := below_regrown W1 dq osq
          have X1 : MAt _ _ { s with v := V } := (X.below hbr).s1 V
          have Y1 := (Y.below hbr).other w.heap.size 1 (.int .u32 V) (by omega)
          have hB1 := (tr hB hbr).setCell (p := ⟨w.heap.size, 1, none⟩) (by simp) (.int .u32 V)
          clear X Y hB x1 x2 x5 x6 f1 hg hf hbr hX
          generalize ((grow (redrawn W1 dq) osq).setCell ⟨w.heap.size, 1, none⟩ (.int .u32 V)) = W2 at *
          have x6 := X1.c6
          have f6 := X1.free 6
          simp only at x6
          clear hV q0 q1 q2
          go_upto_region 13 with (fail)
          have X2 : MAt _ _ { s with v := V, ph := F } := X1.s6 F
          have Y2 := Y1.other w.heap.size 6 (.int .u32 F) (by omega)
          have hB2 := hB1.setCell (p := ⟨w.heap.size, 6, none⟩) (by simp) (.int .u32 F)
          clear X1 Y1 hB1 x6 f6 hF
          generalize (W2.setCell ⟨w.heap.size, 6, none⟩ (.int .u32 F)) = W3 at *
          generalize ({ s with v := V, ph := F } : Tm) = r at *
          have Z := MAt.row Y2 r
          have hB3 := below_setRow hB2 (rl r).toArray (g := w.heap.size + 1) (by omega)
          go_wp2_with (first | (refine loadM rfl (.tmp 2) rfl rfl X2 ?_) | (refine storeM rfl (.tmp 4) (.tmp 71) rfl rfl (t := r) rfl Y2 ?_))
          refine bodyPost_ret (resM rfl _ _ rfl Z) rfl ⟨by rw [HR.out], hB3⟩
end Go.Proofs.Ytijjapmdkalfaaa.B
