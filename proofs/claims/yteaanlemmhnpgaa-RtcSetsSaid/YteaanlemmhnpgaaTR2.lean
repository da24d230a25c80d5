/- The document's own answers of layer 10: the alarm, whether it is met, ticks, what is left. -/
import Derived.Test.YteaanlemmhnpgaaTR
import Derived.Test.YteaanlemmhnpgaaBRef
import Derived.Test.YteaanlemmhnpgaaTail
import Derived.Deep.Cut
namespace Go.Proofs.Yteaanlemmhnpgaa.B
set_option linter.unusedVariables false
set_option linter.unusedSimpArgs false
open Go.ChangeShapes Go.WideShapes Go.RowKit Go.Sort
theorem kAlarm (t : Rk) (w : World) (h : t.ok) : Calls Try.prog 26 #[.agg (kl t).toArray] w fun e w' => e = .returned (.int .u64 t.alarm) ∧ Below w.heap.size w w' := by
  have hB := trA (tr0 w) (oK t)
  have X : KAt (w.alloc (oK t)) w.heap.size t := blk_new w (oK t)
  have x4 := X.c4
  have x5 := X.c5
  go_enter Try.func26, Try.ntmps26
  go_upto_region 1 with (fail)
  rw [oK_eq]
  generalize w.alloc (oK t) = W at *
  go_wp2_with (go_at_call 44; refine (rJoin _ _ _ h.h0 h.h1 h.l0 h.l1).mono ?_; rintro e w' ⟨rfl, rfl⟩)
  go_ret
  exact ⟨rfl, hB⟩
theorem kMet (t : Rk) (w : World) (h : t.ok) : Calls Try.prog 27 #[.agg (kl t).toArray] w fun e w' => e = .returned (.bool t.met) ∧ Below w.heap.size w w' := by
  have hB := trA (tr0 w) (oK t)
  have X : KAt (w.alloc (oK t)) w.heap.size t := blk_new w (oK t)
  have x3 := X.c3
  have x6 := X.c6
  have HA := Lib.hid (fun w' => kAlarm t w' h)
  have hl := X.lt
  obtain ⟨m, hm⟩ : ∃ m, t.met = m := ⟨_, rfl⟩
  rw [hm]
  unfold Rk.met at hm
  obtain ⟨A, hA⟩ : ∃ A, t.alarm = A := ⟨_, rfl⟩
  rw [hA] at hm HA
  clear hA h
  cases hen : t.en
  · rw [hen] at x6 hm
    have hM := Lib.hid hm
    clear hen hm
    go_enter Try.func27, Try.ntmps27
    go_upto_region 1 with (fail)
    rw [oK_eq]
    generalize w.alloc (oK t) = W at *
    have hg := gcell
    refine wp_region_quiet_below (by kernel_rfl) (by kernel_rfl) ?_
    repeat (go_big_quiet_step (fail))
    refine wpQuiet_nil ?_
    intro _ hw'
    obtain ⟨⟨dq, osq⟩, hw''⟩ := hw'
    subst hw''
    go_wp2_with fail
    go_ret
    exact ⟨ret_bool hM.out, trG hB _ _⟩
  · rw [hen] at x6 hm
    have hM := Lib.hid hm
    clear hen hm
    go_enter Try.func27, Try.ntmps27
    go_upto_region 1 with (fail)
    rw [oK_eq]
    generalize w.alloc (oK t) = W at *
    have hg := gcell
    refine wp_region_quiet_below (by kernel_rfl) (by kernel_rfl) ?_
    repeat (first
      | go_big_quiet_skip
      | (go_big_quiet_want; first
          | (refine qloadK (.tmp 1) rfl rfl X.grown ?_; go_simp; go_big_quiet_on)
          | (go_big_quiet_op; first
              | go_big_quiet_on
              | go_big_quiet_call (first | (go_at_call 26; exact Calls.regrown_of (HA.out _))))))
    refine wpQuiet_nil ?_
    intro _ hw'
    obtain ⟨⟨dq, osq⟩, hw''⟩ := hw'
    subst hw''
    go_wp2_with fail
    go_ret
    exact ⟨ret_bool (by rw [← hM.out]; simp), trG hB _ _⟩
theorem behind_no {a b : Rk} (h : b.met = false) : Rk.behind a b = b := by unfold Rk.behind; rw [h]; rfl
theorem behind_was {a b : Rk} (h : a.met = true) : Rk.behind a b = b := by unfold Rk.behind; rw [h]; simp
theorem behind_yes {a b : Rk} (h : a.met = false) (k : b.met = true) : Rk.behind a b = { b with st := true } := by unfold Rk.behind; rw [h, k]; rfl
set_option maxHeartbeats 800000 in
theorem kBehind (a b : Rk) (w : World) (ha : a.ok) (hb : b.ok) :
    Calls Try.prog 41 #[.agg (kl a).toArray, .agg (kl b).toArray] w fun e w' => e = .returned (.agg (kl (Rk.behind a b)).toArray) ∧ Below w.heap.size w w' := by
  have hB := trA (trA (trA (tr0 w) (oK a)) (oK b)) zK
  have X : KAt (((w.alloc (oK a)).alloc (oK b)).alloc zK) w.heap.size a := b3_0 w _ _ _
  have Y : KAt (((w.alloc (oK a)).alloc (oK b)).alloc zK) (w.heap.size + 1) b := b3_1 w _ _ _
  have Z : KAt (((w.alloc (oK a)).alloc (oK b)).alloc zK) (w.heap.size + 2) rkz := b3_2 w _ _ _
  have HA := Lib.hid (fun w' => kMet a w' ha)
  have HM := Lib.hid (fun w' => kMet b w' hb)
  clear ha hb
  obtain ⟨p, hp⟩ : ∃ p, a.met = p := ⟨_, rfl⟩
  obtain ⟨q, hq⟩ : ∃ q, b.met = q := ⟨_, rfl⟩
  rw [hp] at HA
  rw [hq] at HM
  cases q
  · rw [behind_no hq]
    clear hp hq HA
    go_enter Try.func41, Try.ntmps41
    go_upto_region 1 with (fail)
    rw [oK_eq, oK_eq, zK_eq]
    generalize ((w.alloc (oK a)).alloc (oK b)).alloc zK = W at *
    go_wp2_with (refine loadK rfl (.tmp 3) rfl rfl Y ?_)
    refine (HM.out _).mono ?_
    rintro e W1 ⟨rfl, hb⟩
    have X1 := X.below hb
    have Y1 := Y.below hb
    have Z1 := Z.below hb
    have hB1 := tr hB hb
    clear X Y Z hB hb HM
    have R := KAt.row Z1 b
    have hB2 := below_setRow hB1 (kl b).toArray (g := w.heap.size + 2) (by omega)
    go_wp2_with (first | (refine loadK rfl (.tmp 3) rfl rfl Y1 ?_) | (refine storeK rfl (.tmp 4) (.tmp 13) rfl rfl (t := b) rfl Z1 ?_))
    refine bodyPost_ret (resK rfl _ _ rfl R) rfl ⟨rfl, hB2⟩
  · have he : Rk.behind a b = (if p = true then b else { b with st := true }) := by
      cases p
      · exact behind_yes hp hq
      · exact behind_was hp
    rw [he]
    clear he hp hq
    go_enter Try.func41, Try.ntmps41
    go_upto_region 1 with (fail)
    rw [oK_eq, oK_eq, zK_eq]
    generalize ((w.alloc (oK a)).alloc (oK b)).alloc zK = W at *
    go_wp2_with (refine loadK rfl (.tmp 3) rfl rfl Y ?_)
    refine (HM.out _).mono ?_
    rintro e W1 ⟨rfl, hb⟩
    have X1 := X.below hb
    have Y1 := Y.below hb
    have Z1 := Z.below hb
    have hB1 := tr hB hb
    clear X Y Z hB hb HM
    go_wp2_with (first | (refine loadKg (.tmp 2) rfl rfl rfl X1 ?_) | (refine loadK rfl (.tmp 2) rfl rfl X1 ?_))
    refine (HA.out _).mono ?_
    rintro e W2 ⟨rfl, hb⟩
    have Y2 := Y1.below hb
    have Z2 := Z1.below hb
    have hB2 := tr hB1 hb
    clear X1 Y1 Z1 hB1 hb HA
    cases p
    · have f7 := Y2.free 7
      have Y3 : KAt _ _ { b with st := true } := Y2.s7 true
      have Z3 := Z2.other (w.heap.size + 1) 7 (.bool true) (by omega)
      have hB3 := hB2.setCell (p := ⟨w.heap.size + 1, 7, none⟩) (by simp) (.bool true)
      have x7 := Y2.c7
      go_upto_region 3 with (fail)
      clear Y2 Z2 hB2 f7 x7
      generalize (W2.setCell ⟨w.heap.size + 1, 7, none⟩ (.bool true)) = W3 at *
      have R := KAt.row Z3 { b with st := true }
      have hB4 := below_setRow hB3 (kl { b with st := true }).toArray (g := w.heap.size + 2) (by omega)
      go_wp2_with (first | (refine loadK rfl (.tmp 3) rfl rfl Y3 ?_) | (refine storeK rfl (.tmp 4) (.tmp 13) rfl rfl (t := { b with st := true }) rfl Z3 ?_))
      refine bodyPost_ret (resK rfl _ _ rfl R) rfl ⟨rfl, hB4⟩
    · have R := KAt.row Z2 b
      have hB3 := below_setRow hB2 (kl b).toArray (g := w.heap.size + 2) (by omega)
      go_wp2_with (first | (refine loadK rfl (.tmp 3) rfl rfl Y2 ?_) | (refine storeK rfl (.tmp 4) (.tmp 13) rfl rfl (t := b) rfl Z2 ?_))
      refine bodyPost_ret (resK rfl _ _ rfl R) rfl ⟨rfl, hB3⟩
theorem kReset (t : Rk) (w : World) :
    Calls Try.prog 25 #[.agg (kl t).toArray] w fun e w' => e = .returned (.agg (kl t.zero).toArray) ∧ Below w.heap.size w w' := by
  have hB := trA (trA (tr0 w) (oK t)) zK
  have X : KAt ((w.alloc (oK t)).alloc zK) w.heap.size t := b2_0 w _ _
  have Z : KAt ((w.alloc (oK t)).alloc zK) (w.heap.size + 1) rkz := b2_1 w _ _
  have x0 := X.c0
  have x1 := X.c1
  have x3 := X.c3
  go_enter Try.func25, Try.ntmps25
  go_upto_region 1 with (fail)
  rw [oK_eq, zK_eq]
  generalize (w.alloc (oK t)).alloc zK = W at *
  have R := KAt.row Z t.zero
  have hB2 := below_setRow hB (kl t.zero).toArray (g := w.heap.size + 1) (by omega)
  go_wp2_with (refine storeK rfl (.tmp 2) (.tmp 9) rfl rfl (t := t.zero) rfl Z ?_)
  refine bodyPost_ret (resK rfl _ _ rfl R) rfl ⟨rfl, hB2⟩
end Go.Proofs.Yteaanlemmhnpgaa.B
