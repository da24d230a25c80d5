/- Layer 10: later, left, Left, check, value, Load, Reset of an Rtc (written by tools/gen_tcode2.py). -/
import Derived.Test.YtcgmnjajodegmaaGreatZNaq
namespace Go.Proofs.YtcgmnjajodegmaaGreat.B
set_option linter.unusedVariables false
set_option linter.unusedSimpArgs false
set_option maxRecDepth 100000
open Go.ChangeShapes Go.WideShapes Go.RowKit Go.Sort
theorem adv_code {t : Rk} (h : t.ok) {n : Int} (n0 : 0 ≤ n) : t.adv n = if t.div ≤ t.rest + n % t.div then { t with sec := addS t.sec (n / t.div + 1), rest := t.rest + n % t.div - t.div } else { t with sec := addS t.sec (n / t.div), rest := t.rest + n % t.div } := by
  obtain ⟨e1, e2⟩ := adv_parts t.rest n t.div h.d0 h.r0 h.r1
  have q := Int.ediv_nonneg n0 (show 0 ≤ t.div by have := h.d0; omega)
  unfold Rk.adv
  rw [e1, e2]
  split
  · simp only [Rk.mk.injEq, and_true, true_and]
    rw [addS_min]
  · simp only [Rk.mk.injEq, and_true, true_and]
    rw [addS_min, Int.add_zero]
theorem lo_is {a : Int} (h0 : 0 ≤ a) (h1 : a < 4294967296) : lo a = a := by unfold lo; omega
theorem loT_join (a b : Int) (h0 : 0 ≤ b) (h1 : b < 4294967296) : lo (join a b) = b := by unfold lo join; omega
theorem hiT_join (a b : Int) (h0 : 0 ≤ b) (h1 : b < 4294967296) : hi (join a b) = a := by unfold hi join; omega
/-- Where a second ends, the quotient is far from the greatest number. -/
theorem quo_room {n d r : Int} (n0 : 0 ≤ n) (n1 : n < 18446744073709551616) (d0 : 1 ≤ d) (r0 : 0 ≤ r) (r1 : r < d) (h : d ≤ r + n % d) : n / d + 1 < 18446744073709551616 := by
  have m1 := Int.emod_lt_of_pos n (show 0 < d by omega)
  have d2 : 2 ≤ d := by omega
  have q0 := Int.ediv_nonneg n0 (show 0 ≤ d by omega)
  have e := Int.mul_ediv_add_emod n d
  have m0 := Int.emod_nonneg n (show d ≠ 0 by omega)
  have p : 2 * (n / d) ≤ d * (n / d) := Int.mul_le_mul_of_nonneg_right d2 q0
  omega
set_option maxHeartbeats 800000 in
theorem eLater (t : Rk) (n : Int) (w : World) (h : t.ok) (n0 : 0 ≤ n) (n1 : n < 18446744073709551616) :
    Calls Tryz.prog 247 #[.agg (el t).toArray, .int .u64 n] w fun e w' => e = .returned (.agg (el (t.adv n)).toArray) ∧ Below w.heap.size w w' := by
  have hB := trA (trA (tr0 w) (oE tRst t)) (oE tRst rkz)
  have X : EAt ((w.alloc (oE tRst t)).alloc (oE tRst rkz)) w.heap.size tRst t := b2_0 w _ _
  have Y : EAt ((w.alloc (oE tRst t)).alloc (oE tRst rkz)) (w.heap.size + 1) tRst rkz := b2_1 w _ _
  have hw := adv_code h n0
  have hro := quo_room n0 n1 h.d0 h.r0 h.r1
  obtain ⟨R, hR⟩ : ∃ R, t.adv n = R := ⟨_, rfl⟩
  rw [hR] at hw ⊢
  clear hR
  obtain ⟨d0, d1, r0, r1, w0, w1, s0, s1, _, _, _, _⟩ := h
  have q0 := Int.ediv_nonneg n0 (show 0 ≤ t.div by omega)
  have q1 : n / t.div < 18446744073709551616 := Int.lt_of_le_of_lt (Int.ediv_le_self _ n0) n1
  have m0 := Int.emod_nonneg n (show t.div ≠ 0 by omega)
  have m1 := Int.emod_lt_of_pos n (show 0 < t.div by omega)
  have hq : n.tdiv t.div = n / t.div := Int.tdiv_eq_ediv_of_nonneg n0
  have hm : n.tmod t.div = n % t.div := Int.tmod_eq_emod_of_nonneg n0
  obtain ⟨q, hq2⟩ : ∃ q, n / t.div = q := ⟨_, rfl⟩
  obtain ⟨m, hm2⟩ : ∃ m, n % t.div = m := ⟨_, rfl⟩
  rw [hq2] at hq q0 q1 hw hro
  rw [hm2] at hm m0 m1 hw hro
  have hne : (t.div == 0) = false := by simp; omega
  clear hq2 hm2
  have HW := Lib.hid hw
  have HQ := Lib.hid hq
  have HR := Lib.hid hm
  have HO := Lib.hid hro
  clear hw hq hm hro
  go_enter Tryz.func247, Tryz.ntmps247
  go_upto_region 1 with (fail)
  rw [zE_eq, oE_eq]
  generalize (w.alloc (oE tRst t)).alloc (oE tRst rkz) = W at *
  have x0 := X.c0
  have x1 := X.c1
  go_upto_region 2 with (fail)
  have hl := X.lt
  have hg := gcell
  have hwr : IntKind.u64.wrap (t.rest + m) = t.rest + m := IntWalk.u64_in _ (by omega)
  have HR2 := HR.out
  have HQ2 := HQ.out
  refine wp_region_quiet_below (by kernel_rfl) (by kernel_rfl) ?_
  repeat (go_big_quiet_step (fail))
  refine wpQuiet_nil ?_
  intro _ hw'
  obtain ⟨⟨dq2, osq2⟩, hw''⟩ := hw'
  subst hw''
  clear HR2 HQ2 hwr x0 x1 hg hl
  have hb2 := below_regrown W dq2 osq2
  have X1 := X.below hb2
  have Y1 := Y.below hb2
  have B1 := tr hB hb2
  clear X Y hB hb2
  generalize grow (redrawn W dq2) osq2 = W1 at *
  have x3 := X1.c3
  have f3 := X1.free 3
  have f1 := X1.free 1
  have x1 := X1.c1
  by_cases hge : t.div ≤ t.rest + m
  · have hw := HW.out
    rw [if_pos hge] at hw
    have hro := HO.out hge
    have hlt2 : ¬ t.rest + m - t.div < 0 := by omega
    have HA := Lib.hid (fun w => Add t.sec (q + 1) w s0 s1 (by omega) (by omega))
    have HL := Lib.hid (fun w => by have := Lo (t.rest + m - t.div) w (by omega) (by omega); rw [lo_is (by omega) (by omega)] at this; exact this)
    obtain ⟨u, hu⟩ : ∃ u, addS t.sec (q + 1) = u := ⟨_, rfl⟩
    rw [hu] at hw HA
    clear hu HW HO
    have X2 := (X1.s3 u).s1 (t.rest + m - t.div)
    rw [← hw] at X2
    have Y2 := (Y1.other w.heap.size 3 (.int .u64 u) (by omega)).other w.heap.size 1 (.int .u32 (t.rest + m - t.div)) (by omega)
    have B2 := (B1.setCell (p := ⟨w.heap.size, 3, none⟩) (by simp) (.int .u64 u)).setCell (p := ⟨w.heap.size, 1, none⟩) (by simp) (.int .u32 (t.rest + m - t.div))
    clear X1 Y1 B1 hw
    go_upto_region 6 with (first | (go_at_call 249; refine (HA.out _).mono ?_; rintro e w' ⟨rfl, rfl⟩) | (go_at_call 164; refine (HL.out _).mono ?_; rintro e w' ⟨rfl, rfl⟩))
    clear x3 f3 f1 x1 HA HL
    generalize (W1.setCell ⟨w.heap.size, 3, none⟩ (.int .u64 u)).setCell ⟨w.heap.size, 1, none⟩ (.int .u32 (t.rest + m - t.div)) = W2 at *
    have Z := EAt.row Y2 R
    have hB := below_setRow B2 (el R).toArray (g := w.heap.size + 1) (by omega)
    go_wp2_with (first | (refine loadE rfl (.tmp 2) rfl rfl X2 ?_) | (refine storeE rfl (.tmp 4) (.tmp 37) rfl rfl (t := R) rfl Y2 ?_))
    exact bodyPost_ret (resE rfl _ _ rfl Z) rfl ⟨rfl, hB⟩
  · have hw := HW.out
    rw [if_neg hge] at hw
    have HA := Lib.hid (fun w => Add t.sec (q) w s0 s1 (by omega) (by omega))
    have HL := Lib.hid (fun w => by have := Lo (t.rest + m) w (by omega) (by omega); rw [lo_is (by omega) (by omega)] at this; exact this)
    obtain ⟨u, hu⟩ : ∃ u, addS t.sec (q) = u := ⟨_, rfl⟩
    rw [hu] at hw HA
    clear hu HW HO
    have X2 := (X1.s3 u).s1 (t.rest + m)
    rw [← hw] at X2
    have Y2 := (Y1.other w.heap.size 3 (.int .u64 u) (by omega)).other w.heap.size 1 (.int .u32 (t.rest + m)) (by omega)
    have B2 := (B1.setCell (p := ⟨w.heap.size, 3, none⟩) (by simp) (.int .u64 u)).setCell (p := ⟨w.heap.size, 1, none⟩) (by simp) (.int .u32 (t.rest + m))
    clear X1 Y1 B1 hw
    go_upto_region 6 with (first | (go_at_call 249; refine (HA.out _).mono ?_; rintro e w' ⟨rfl, rfl⟩) | (go_at_call 164; refine (HL.out _).mono ?_; rintro e w' ⟨rfl, rfl⟩))
    clear x3 f3 f1 x1 HA HL
    generalize (W1.setCell ⟨w.heap.size, 3, none⟩ (.int .u64 u)).setCell ⟨w.heap.size, 1, none⟩ (.int .u32 (t.rest + m)) = W2 at *
    have Z := EAt.row Y2 R
    have hB := below_setRow B2 (el R).toArray (g := w.heap.size + 1) (by omega)
    go_wp2_with (first | (refine loadE rfl (.tmp 2) rfl rfl X2 ?_) | (refine storeE rfl (.tmp 4) (.tmp 37) rfl rfl (t := R) rfl Y2 ?_))
    exact bodyPost_ret (resE rfl _ _ rfl Z) rfl ⟨rfl, hB⟩
set_option maxHeartbeats 800000 in
theorem eLeftS (t : Rk) (w : World) (h : t.ok) (hen : t.en = true) (hm : t.met = false) :
    Calls Tryz.prog 169 #[.agg (el t).toArray] w fun e w' => e = .returned (.int .u64 t.left) ∧ Below w.heap.size w w' := by
  have hB := trA (tr0 w) (oE tRst t)
  have X := ea_new w tRst t
  have hl := left_on hen hm
  have ha : t.sec < t.alarm := by unfold Rk.met at hm; rw [hen] at hm; simpa using hm
  obtain ⟨a0, a1⟩ := Rk.alarm_bounds h
  obtain ⟨L, hL⟩ : ∃ L, t.left = L := ⟨_, rfl⟩
  rw [hL] at hl ⊢
  clear hL hen hm
  have x0 := X.c0
  have x1 := X.c1
  have x3 := X.c3
  have x4 := X.c4
  obtain ⟨A, hA⟩ : ∃ A, t.alarm = A := ⟨_, rfl⟩
  rw [hA] at hl a0 a1 ha x4
  clear hA X
  have HE := Lib.hid hl
  obtain ⟨d0, d1, r0, r1, _, _, s0, s1, _, _, _, _⟩ := h
  have hne : (t.div == 0) = false := by simp; omega
  clear hl
  go_enter Tryz.func169, Tryz.ntmps169
  go_upto_region 1 with (fail)
  rw [oE_eq]
  generalize w.alloc (oE tRst t) = W at *
  go_upto_region 4 with (fail)
  have hx := left_test (A - t.sec - 1) t.div (t.div - t.rest) d0
  by_cases hov : nev < (A - t.sec - 1) * t.div + (t.div - t.rest)
  · have h1 := hx.2 hov
    unfold nev at h1
    have HE2 := Lib.hid (HE.out.trans (if_pos hov))
    clear hx hov HE
    go_wp2_with fail
    go_ret
    exact ⟨ret_int HE2.out.symm, hB⟩
  · have h1 : ¬ (18446744073709551615 - (t.div - t.rest)) / t.div < A - t.sec - 1 := fun e => hov (hx.1 e)
    have p0 : 0 ≤ (A - t.sec - 1) * t.div := Int.mul_nonneg (by omega) (by omega)
    have p1 : t.div - t.rest + (A - t.sec - 1) * t.div < 18446744073709551616 := by unfold nev at hov; omega
    have p2 : (A - t.sec - 1) * t.div < 18446744073709551616 := by omega
    have HE2 := Lib.hid ((HE.out.trans (if_neg hov)).trans (Int.add_comm _ _))
    clear hx hov HE
    go_wp2_with fail
    go_ret
    exact ⟨ret_int HE2.out.symm, hB⟩
theorem left_off {t : Rk} (h : t.en = false ∨ t.met = true) : t.left = nev := by
  unfold Rk.left
  rw [if_neg (fun e => by rcases h with h | h <;> simp [h] at e)]
set_option maxHeartbeats 800000 in
theorem eLeft (t : Rk) (p : Nat) (w : World) (h : t.ok) (a : EAt w p tRtc t) :
    Calls Tryz.prog 119 #[.pointer (some ⟨p, 0, none⟩)] w fun e w' => e = .returned (.int .u64 t.left) ∧ Below w.heap.size w w' := by
  have M := Lib.hid (fun w => eMet t w h)
  have S := Lib.hid (fun w hen hm => eLeftS t w h hen hm)
  have HO := Lib.hid (fun h => left_off (t := t) h)
  obtain ⟨L, hL⟩ : ∃ L, t.left = L := ⟨_, rfl⟩
  rw [hL] at S HO ⊢
  clear hL h
  have hen : ∀ X : World → Prop, (∃ en, t.en = en) := fun _ => ⟨_, rfl⟩
  obtain ⟨en, hen⟩ := hen fun _ => True
  obtain ⟨m, hm⟩ : ∃ m, t.met = m := ⟨_, rfl⟩
  rw [hm] at M HO S
  rw [hen] at HO S
  have HEN := Lib.hid hen
  clear hen hm
  cases en
  · have hv := HO.out (Or.inl rfl)
    subst hv
    clear HO S M
    go_enter Tryz.func119, Tryz.ntmps119
    go_wp2_with fail
    refine (eNow t p _ a).mono ?_
    rintro e w1 ⟨rfl, hb⟩
    have X := ea_new w1 tRst rkz
    have B1 := trA hb (oE tRst rkz)
    have Y := EAt.row X t
    have B2 := below_setRow B1 (el t).toArray (g := w1.heap.size) (by have := hb.size; omega)
    go_upto_region 2 with (first | (refine storeE rfl (.tmp 3) (.tmp 5) rfl rfl (t := t) rfl (by rw [zE_eq]; exact X) ?_))
    rw [zE_eq]
    clear a X hb B1
    generalize (w1.alloc (oE tRst rkz)).setRow w1.heap.size (el t).toArray = W at *
    have x5 := Y.c5
    rw [HEN.out] at x5
    unfold tk at x5
    clear HEN
    go_wp2_with fail
    go_ret
    exact ⟨rfl, B2⟩
  · go_enter Tryz.func119, Tryz.ntmps119
    go_wp2_with fail
    refine (eNow t p _ a).mono ?_
    rintro e w1 ⟨rfl, hb⟩
    have X := ea_new w1 tRst rkz
    have B1 := trA hb (oE tRst rkz)
    have Y := EAt.row X t
    have B2 := below_setRow B1 (el t).toArray (g := w1.heap.size) (by have := hb.size; omega)
    go_upto_region 2 with (first | (refine storeE rfl (.tmp 3) (.tmp 5) rfl rfl (t := t) rfl (by rw [zE_eq]; exact X) ?_))
    rw [zE_eq]
    clear a X hb B1
    generalize (w1.alloc (oE tRst rkz)).setRow w1.heap.size (el t).toArray = W at *
    have x5 := Y.c5
    rw [HEN.out] at x5
    unfold tk at x5
    clear HEN
    go_wp2_with (first | (refine loadEg (.tmp 3) rfl rfl rfl Y ?_) | (refine loadE rfl (.tmp 3) rfl rfl Y ?_))
    refine (M.out _).mono ?_
    rintro e w2 ⟨rfl, hb⟩
    have Y2 := Y.below hb
    have B3 := tr B2 hb
    clear x5 Y B2 hb M
    cases m
    · have S2 := Lib.hid (fun w => S.out w (by simp) (by simp))
      clear S HO
      go_wp2_with (refine loadE rfl (.tmp 3) rfl rfl Y2 ?_)
      refine (S2.out _).mono ?_
      rintro e w3 ⟨rfl, hb⟩
      have B4 := tr B3 hb
      go_wp2_with fail
      go_ret
      exact ⟨rfl, B4⟩
    · have hv := HO.out (Or.inr rfl)
      subst hv
      clear HO S
      go_wp2_with fail
      go_ret
      exact ⟨rfl, B3⟩
theorem eLeftNil (w : World) :
    Calls Tryz.prog 119 #[.pointer none] w fun e w' => e = .returned (.int .u64 18446744073709551615) ∧ Below w.heap.size w w' := by
  go_enter Tryz.func119, Tryz.ntmps119
  go_wp2_with fail
  refine (eNowNil _).mono ?_
  rintro e w1 ⟨rfl, hb⟩
  have X := ea_new w1 tRst rkz
  have B1 := trA hb (oE tRst rkz)
  have Y := EAt.row X rkz
  have B2 := below_setRow B1 (el rkz).toArray (g := w1.heap.size) (by have := hb.size; omega)
  go_upto_region 2 with (first | (refine storeE rfl (.tmp 3) (.tmp 5) rfl rfl (t := rkz) rfl (by rw [zE_eq]; exact X) ?_))
  rw [zE_eq]
  clear X hb B1
  generalize (w1.alloc (oE tRst rkz)).setRow w1.heap.size (el rkz).toArray = W at *
  have x5 : W.cell? ⟨w1.heap.size, 5, none⟩ = some (.int .u32 0) := Y.c5
  go_wp2_with fail
  go_ret
  exact ⟨rfl, B2⟩
theorem eCheck (t : Rk) (o : Int) (p : Nat) (w : World) (h : t.ok) (a : EAt w p tRtc t) (o0 : 0 ≤ o) (o1 : o < 4294967296) :
    Calls Tryz.prog 166 #[.pointer (some ⟨p, 0, none⟩), .int .u32 o] w fun e w' => e = .returned (.int .i64 (sErrT o)) ∧ Below w.heap.size w w' := by
  have HN := Lib.hid (fun w => eNone t w h)
  cases h4 : (o % 4 != 0)
  · by_cases h36 : 36 ≤ o
    · have HE := Lib.hid (show sErrT o = 10 by unfold sErrT; rw [if_neg (by simpa using h4), if_pos h36])
      go_enter Tryz.func166, Tryz.ntmps166
      go_wp2_with fail
      refine (eNow t p _ a).mono ?_
      rintro e w1 ⟨rfl, h1⟩
      go_wp2_with fail
      refine (HN.out _).mono ?_
      rintro e w2 ⟨rfl, h2⟩
      go_wp2_with fail
      go_ret
      exact ⟨ret_int HE.out.symm, tr h1 h2⟩
    · have HE := Lib.hid (show sErrT o = 0 by unfold sErrT; rw [if_neg (by simpa using h4), if_neg h36])
      go_enter Tryz.func166, Tryz.ntmps166
      go_wp2_with fail
      refine (eNow t p _ a).mono ?_
      rintro e w1 ⟨rfl, h1⟩
      go_wp2_with fail
      refine (HN.out _).mono ?_
      rintro e w2 ⟨rfl, h2⟩
      go_wp2_with fail
      go_ret
      exact ⟨ret_int HE.out.symm, tr h1 h2⟩
  · have HE := Lib.hid (show sErrT o = 11 by unfold sErrT; rw [if_pos (by simpa using h4)])
    go_enter Tryz.func166, Tryz.ntmps166
    go_wp2_with fail
    refine (eNow t p _ a).mono ?_
    rintro e w1 ⟨rfl, h1⟩
    go_wp2_with fail
    refine (HN.out _).mono ?_
    rintro e w2 ⟨rfl, h2⟩
    go_wp2_with fail
    go_ret
    exact ⟨ret_int HE.out.symm, tr h1 h2⟩
theorem eCheckNil (o : Int) (w : World) :
    Calls Tryz.prog 166 #[.pointer none, .int .u32 o] w fun e w' => e = .returned (.int .i64 10) ∧ Below w.heap.size w w' := by
  go_enter Tryz.func166, Tryz.ntmps166
  go_wp2_with fail
  refine (eNowNil _).mono ?_
  rintro e w1 ⟨rfl, h1⟩
  go_wp2_with fail
  refine (eNoneZero _).mono ?_
  rintro e w2 ⟨rfl, h2⟩
  go_wp2_with fail
  go_ret
  exact ⟨rfl, tr h1 h2⟩
theorem eValue (t : Rk) (o : Int) (p : Nat) (w : World) (h : t.ok) (a : EAt w p tRtc t) (o0 : 0 ≤ o) (he : sErrT o = 0) :
    Calls Tryz.prog 167 #[.pointer (some ⟨p, 0, none⟩), .int .u32 o] w fun e w' => e = .returned (.int .u32 (t.val o)) ∧ w = w' := by
  obtain ⟨V, hV⟩ : ∃ V, t.val o = V := ⟨_, rfl⟩
  rw [hV]
  obtain ⟨b0, b1⟩ := Rk.alarm_bounds h
  rcases sErrT_zero o0 he with rfl | rfl | rfl | rfl | rfl | rfl | rfl | rfl | rfl
  · replace hV : lo t.sec = V := hV
    subst hV
    have HC := Lib.hid (fun w => Lo t.sec w h.s0 h.s1)
    have x := a.c3
    clear he h a b0 b1
    go_enter Tryz.func167, Tryz.ntmps167
    go_wp2_with (go_at_call 164; refine (HC.out _).mono ?_; rintro e w' ⟨rfl, rfl⟩)
    go_ret
    exact ⟨rfl, rfl⟩
  · replace hV : hi t.sec = V := hV
    subst hV
    have HC := Lib.hid (fun w => Hi t.sec w h.s0 h.s1)
    have x := a.c3
    clear he h a b0 b1
    go_enter Tryz.func167, Tryz.ntmps167
    go_wp2_with (go_at_call 192; refine (HC.out _).mono ?_; rintro e w' ⟨rfl, rfl⟩)
    go_ret
    exact ⟨rfl, rfl⟩
  · replace hV : t.set = V := hV
    subst hV
    have x := a.c2
    clear he h a b0 b1
    go_enter Tryz.func167, Tryz.ntmps167
    go_wp2_with fail
    go_ret
    exact ⟨rfl, rfl⟩
  · replace hV : 0 = V := hV
    subst hV
    clear he h a b0 b1
    go_enter Tryz.func167, Tryz.ntmps167
    go_wp2_with fail
    go_ret
    exact ⟨rfl, rfl⟩
  · replace hV : t.al = V := hV
    subst hV
    have HC := Lib.hid (fun w => by have := Lo t.alarm w b0 b1; unfold Rk.alarm at this; rw [loT_join _ _ h.l0 h.l1] at this; exact this)
    have x := a.c4
    clear he h a b0 b1
    go_enter Tryz.func167, Tryz.ntmps167
    go_wp2_with (go_at_call 164; refine (HC.out _).mono ?_; rintro e w' ⟨rfl, rfl⟩)
    go_ret
    exact ⟨rfl, rfl⟩
  · replace hV : t.ah = V := hV
    subst hV
    have HC := Lib.hid (fun w => by have := Hi t.alarm w b0 b1; unfold Rk.alarm at this; rw [hiT_join _ _ h.l0 h.l1] at this; exact this)
    have x := a.c4
    clear he h a b0 b1
    go_enter Tryz.func167, Tryz.ntmps167
    go_wp2_with (go_at_call 192; refine (HC.out _).mono ?_; rintro e w' ⟨rfl, rfl⟩)
    go_ret
    exact ⟨rfl, rfl⟩
  · replace hV : tk t.en = V := hV
    subst hV
    have x := a.c5
    clear he h a b0 b1
    go_enter Tryz.func167, Tryz.ntmps167
    go_wp2_with fail
    go_ret
    exact ⟨rfl, rfl⟩
  · replace hV : tk t.st = V := hV
    subst hV
    have x := a.c6
    clear he h a b0 b1
    go_enter Tryz.func167, Tryz.ntmps167
    go_wp2_with fail
    go_ret
    exact ⟨rfl, rfl⟩
  · replace hV : t.div = V := hV
    subst hV
    have x := a.c0
    clear he h a b0 b1
    go_enter Tryz.func167, Tryz.ntmps167
    go_wp2_with fail
    go_ret
    exact ⟨rfl, rfl⟩
theorem eLoad (t : Rk) (o : Int) (p : Nat) (w : World) (h : t.ok) (a : EAt w p tRtc t) (o0 : 0 ≤ o) (o1 : o < 4294967296) :
    Calls Tryz.prog 113 #[.pointer (some ⟨p, 0, none⟩), .int .u32 o] w fun e w' => e = .returned (.tuple #[.int .u32 (t.valE o), .int .i64 (sErrT o)]) ∧ Below w.heap.size w w' := by
  have HC := Lib.hid (fun w a => eCheck t o p w h a o0 o1)
  have HV := Lib.hid (fun w a he => eValue t o p w h a o0 he)
  have HD := Lib.hid (show t.valE o = if sErrT o = 0 then t.val o else 0 from rfl)
  obtain ⟨V, hV⟩ : ∃ V, t.valE o = V := ⟨_, rfl⟩
  obtain ⟨U, hU⟩ : ∃ U, t.val o = U := ⟨_, rfl⟩
  obtain ⟨E, hE⟩ : ∃ E, sErrT o = E := ⟨_, rfl⟩
  rw [hV, hU, hE] at HD
  rw [hV, hE]
  rw [hE] at HC HV
  rw [hU] at HV
  clear hV hU hE h
  by_cases he : E = 0
  · subst he
    have hv := HD.out
    rw [if_pos rfl] at hv
    subst hv
    have HV2 := Lib.hid (fun w a => HV.out w a rfl)
    clear HV HD
    go_enter Tryz.func113, Tryz.ntmps113
    go_wp2_with fail
    refine (HC.out _ a).mono ?_
    rintro e w1 ⟨rfl, h1⟩
    have A := a.below h1
    go_wp2_with fail
    refine (HV2.out _ A).mono ?_
    rintro e w2 ⟨rfl, rfl⟩
    go_wp2_with fail
    go_ret2
    exact ⟨rfl, h1⟩
  · have hv := HD.out
    rw [if_neg he] at hv
    subst hv
    have hn : (E == 0) = false := by simpa using he
    have hn2 : (E != 0) = true := by simpa using he
    clear HV HD he
    go_enter Tryz.func113, Tryz.ntmps113
    go_wp2_with fail
    refine (HC.out _ a).mono ?_
    rintro e w1 ⟨rfl, h1⟩
    go_wp2_with fail
    go_ret2
    exact ⟨rfl, h1⟩
theorem eLoadNil (o : Int) (w : World) :
    Calls Tryz.prog 113 #[.pointer none, .int .u32 o] w fun e w' => e = .returned (.tuple #[.int .u32 0, .int .i64 10]) ∧ Below w.heap.size w w' := by
  go_enter Tryz.func113, Tryz.ntmps113
  go_wp2_with fail
  refine (eCheckNil o _).mono ?_
  rintro e w1 ⟨rfl, h1⟩
  go_wp2_with fail
  go_ret2
  exact ⟨rfl, h1⟩
theorem eReset (t : Rk) (p : Nat) (w : World) (a : EAt w p tRtc t) :
    Calls Tryz.prog 240 #[.pointer (some ⟨p, 0, none⟩)] w fun e w' => e = .returned (.tuple #[]) ∧ EAt w' p tRtc t.zero ∧ Off (· = p) w w' := by
  have x0 := a.c0
  have x1 := a.c1
  have x3 := a.c3
  have hl := a.lt
  go_enter Tryz.func240, Tryz.ntmps240
  go_upto_region 1 with (fail)
  have hg := gcell
  have hf := gfrozen
  refine wp_region_tail_below 19 (by kernel_rfl) (by kernel_rfl) ?_
  simp only [List.take_succ_cons, List.take_zero, List.drop_succ_cons, List.drop_zero]
  repeat (go_big_quiet_step (fail))
  refine wpQuiet_nil ?_
  intro _ hw'
  obtain ⟨⟨dq, osq⟩, hw''⟩ := hw'
  subst hw''
  have hb := below_regrown w dq osq
  have A := a.below hb
  have ho := Off.ofBelow (S := (· = p)) hb
  clear x0 x1 x3 hl hg hf a hb
  generalize grow (redrawn w dq) osq = W at *
  go_wp2_with (refine storeE rfl (.tmp 22) (.tmp 20) rfl rfl (t := t.zero) rfl A ?_)
  go_end0
  exact ⟨rfl, EAt.row A t.zero, ho.trans (off_rowE _ _ _)⟩
theorem eResetNil (w : World) : Calls Tryz.prog 240 #[.pointer none] w fun e w' => e = .returned (.tuple #[]) ∧ w = w' := by
  go_enter Tryz.func240, Tryz.ntmps240
  go_wp2_with fail
  refine bodyPost_ret (v := .tuple #[]) ?_ rfl ⟨rfl, rfl⟩
  simp [results, Tryz.results240, go_sem]
end Go.Proofs.YtcgmnjajodegmaaGreat.B
