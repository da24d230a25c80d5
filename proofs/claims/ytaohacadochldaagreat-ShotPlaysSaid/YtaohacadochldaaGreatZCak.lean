/- A part of the proof of a law of layer 12: ak. -/
import Derived.Test.YtaohacadochldaaGreatZCaj
set_option linter.unusedVariables false
set_option linter.unusedSimpArgs false
set_option maxHeartbeats 12800000
set_option maxRecDepth 100000
namespace Go.Proofs.YtaohacadochldaaGreat.B
open Go.Proofs.Tryz
open Go.ChangeShapes Go.WideShapes Go.RowKit Go.Sort
theorem aFF {t : Rk} (h : t.ok) {n : Int} (n0 : 0 <= n) : t.adv n = if t.div <= t.rest + n % t.div then { t with sec := eF t.sec (n / t.div + 1), rest := t.rest + n % t.div - t.div } else { t with sec := eF t.sec (n / t.div), rest := t.rest + n % t.div } := by
 obtain ⟨e1, e2⟩ := xR t.rest n t.div h.d0 h.r0 h.r1
 have q := Int.ediv_nonneg n0 (show 0 <= t.div by have := h.d0; omega)
 unfold Rk.adv
 rw [e1, e2]
 split
 . simp only [Rk.mk.injEq, and_true, true_and]
   rw [mO]
 . simp only [Rk.mk.injEq, and_true, true_and]
   rw [mO, Int.add_zero]
theorem aKO {a : Int} (h0 : 0 <= a) (h1 : a < 4294967296) : lo a = a := by unfold lo; omega
theorem aBJ (a b : Int) (h0 : 0 <= b) (h1 : b < 4294967296) : lo (cZ a b) = b := by unfold lo cZ; omega
theorem aA7 (a b : Int) (h0 : 0 <= b) (h1 : b < 4294967296) : hi (cZ a b) = a := by unfold hi cZ; omega
theorem aHB {n d r : Int} (n0 : 0 <= n) (n1 : n < 18446744073709551616) (d0 : 1 <= d) (r0 : 0 <= r) (r1 : r < d) (h : d <= r + n % d) : n / d + 1 < 18446744073709551616 := by
 have m1 := Int.emod_lt_of_pos n (show 0 < d by omega)
 have d2 : 2 <= d := by omega
 have q0 := Int.ediv_nonneg n0 (show 0 <= d by omega)
 have e := Int.mul_ediv_add_emod n d
 have m0 := Int.emod_nonneg n (show d ≠ 0 by omega)
 have p : 2 * (n / d) <= d * (n / d) := Int.mul_le_mul_of_nonneg_right d2 q0
 omega
theorem xG {P : Prop} (h : P := by
 have Z := dB.row Y2 R
 have hB := aB B2 (el R).toArray (g := w.heap.size + 1) (by omega)
 go_wp2_with (first | (refine yI rfl (.tmp 2) rfl rfl X2 ?_) | (refine sC rfl (.tmp 4) (.tmp 37) rfl rfl (t := R) rfl Y2 ?_))
 exact bodyPost_ret (aOs rfl _ _ rfl Z) rfl ⟨rfl, hB⟩
 ) : P := h
theorem aLb (t : Rk) (n : Int) (w : World) (h : t.ok) (n0 : 0 <= n) (n1 : n < 18446744073709551616) :
 Calls prog 302 #[.agg (el t).toArray, .int .u64 n] w fun e w' => e = .returned (.agg (el (t.adv n)).toArray) /\ Below w.heap.size w w' := by
 have hB := aE (aE (aH w) (oE iQ t)) (oE iQ mI)
 have X : dB ((w.alloc (oE iQ t)).alloc (oE iQ mI)) w.heap.size iQ t := bM w _ _
 have Y : dB ((w.alloc (oE iQ t)).alloc (oE iQ mI)) (w.heap.size + 1) iQ mI := bU w _ _
 have hw := aFF h n0
 have hro := aHB n0 n1 h.d0 h.r0 h.r1
 obtain ⟨R, hR⟩ : ∃ R, t.adv n = R := ⟨_, rfl⟩
 rw [hR] at hw ⊢
 clear hR
 obtain ⟨d0, d1, r0, r1, w0, w1, s0, s1, _, _, _, _⟩ := h
 have q0 := Int.ediv_nonneg n0 (show 0 <= t.div by omega)
 have q1 : n / t.div < 18446744073709551616 := Int.lt_of_le_of_lt (Int.ediv_le_self _ n0) n1
 have m0 := Int.emod_nonneg n (show t.div ≠ 0 by omega)
 have m1 := Int.emod_lt_of_pos n (show 0 < t.div by omega)
 have hq : n.tdiv t.div = n / t.div := Int.tdiv_eq_ediv_of_nonneg n0
 have hm : n.tmod t.div = n % t.div := Int.tmod_eq_emod_of_nonneg n0
 obtain ⟨q, hq2⟩ : ∃ q, n / t.div = q := ⟨_, rfl⟩
 obtain ⟨m, hm2⟩ : ∃ m, n % t.div = m := ⟨_, rfl⟩
 rw [hq2] at hq q0 q1 hw hro
 rw [hm2] at hm m0 m1 hw hro
 have hne : (t.div == 0) = false := by simp; omega
 clear hq2 hm2
 have HW := Hd hw
 have HQ := Hd hq
 have HR := Hd hm
 have HO := Hd hro
 clear hw hq hm hro
 go_enter func302, ntmps302
 go_upto_region 1 with (fail)
 rw [yZ, aDq]
 generalize (w.alloc (oE iQ t)).alloc (oE iQ mI) = W at *
 have x0 := X.c0
 have x1 := X.c1
 go_upto_region 2 with (fail)
 have hl := X.lt
 have hg := bC
 have hwr : IntKind.u64.wrap (t.rest + m) = t.rest + m := IntWalk.u64_in _ (by omega)
 have HR2 := HR.out
 have HQ2 := HQ.out
 refine wp_region_quiet_below (by kernel_rfl) (by kernel_rfl) ?_
 repeat (go_big_quiet_step (fail))
 refine wpQuiet_nil ?_
 intro _ hw'
 obtain ⟨⟨dq2, osq2⟩, hw''⟩ := hw'
 subst hw''
 clear HR2 HQ2 hwr x0 x1 hg hl
 have hb2 := below_regrown W dq2 osq2
 have X1 := X.below hb2
 have Y1 := Y.below hb2
 have B1 := tr hB hb2
 clear X Y hB hb2
 generalize grow (redrawn W dq2) osq2 = W1 at *
 have x3 := X1.c3
 have f3 := X1.free 3
 have f1 := X1.free 1
 have x1 := X1.c1
 by_cases hge : t.div <= t.rest + m
 . have hw := HW.out
   rw [if_pos hge] at hw
   have hro := HO.out hge
   have hlt2 : ¬ t.rest + m - t.div < 0 := by omega
   have HA := Hd (fun w => Add t.sec (q + 1) w s0 s1 (by omega) (by omega))
   have HL := Hd (fun w => by have := Lo (t.rest + m - t.div) w (by omega) (by omega); rw [aKO (by omega) (by omega)] at this; exact this)
   obtain ⟨u, hu⟩ : ∃ u, eF t.sec (q + 1) = u := ⟨_, rfl⟩
   rw [hu] at hw HA
   clear hu HW HO
   have X2 := (X1.s3 u).s1 (t.rest + m - t.div)
   rw [<- hw] at X2
   have Y2 := (Y1.other w.heap.size 3 (.int .u64 u) (by omega)).other w.heap.size 1 (.int .u32 (t.rest + m - t.div)) (by omega)
   have B2 := (B1.setCell (p := ⟨w.heap.size, 3, none⟩) (by simp) (.int .u64 u)).setCell (p := ⟨w.heap.size, 1, none⟩) (by simp) (.int .u32 (t.rest + m - t.div))
   clear X1 Y1 B1 hw
   go_upto_region 6 with (first | (go_at_call 274; refine (HA.out _).mono ?_; rintro e w' ⟨rfl, rfl⟩) | (go_at_call 55; refine (HL.out _).mono ?_; rintro e w' ⟨rfl, rfl⟩))
   clear x3 f3 f1 x1 HA HL
   generalize (W1.setCell ⟨w.heap.size, 3, none⟩ (.int .u64 u)).setCell ⟨w.heap.size, 1, none⟩ (.int .u32 (t.rest + m - t.div)) = W2 at *
   exact xG
 . have hw := HW.out
   rw [if_neg hge] at hw
   have HA := Hd (fun w => Add t.sec (q) w s0 s1 (by omega) (by omega))
   have HL := Hd (fun w => by have := Lo (t.rest + m) w (by omega) (by omega); rw [aKO (by omega) (by omega)] at this; exact this)
   obtain ⟨u, hu⟩ : ∃ u, eF t.sec (q) = u := ⟨_, rfl⟩
   rw [hu] at hw HA
   clear hu HW HO
   have X2 := (X1.s3 u).s1 (t.rest + m)
   rw [<- hw] at X2
   have Y2 := (Y1.other w.heap.size 3 (.int .u64 u) (by omega)).other w.heap.size 1 (.int .u32 (t.rest + m)) (by omega)
   have B2 := (B1.setCell (p := ⟨w.heap.size, 3, none⟩) (by simp) (.int .u64 u)).setCell (p := ⟨w.heap.size, 1, none⟩) (by simp) (.int .u32 (t.rest + m))
   clear X1 Y1 B1 hw
   go_upto_region 6 with (first | (go_at_call 274; refine (HA.out _).mono ?_; rintro e w' ⟨rfl, rfl⟩) | (go_at_call 55; refine (HL.out _).mono ?_; rintro e w' ⟨rfl, rfl⟩))
   clear x3 f3 f1 x1 HA HL
   generalize (W1.setCell ⟨w.heap.size, 3, none⟩ (.int .u64 u)).setCell ⟨w.heap.size, 1, none⟩ (.int .u32 (t.rest + m)) = W2 at *
   exact xG
theorem aLc (t : Rk) (w : World) (h : t.ok) (hen : t.en = true) (hm : t.met = false) :
 Calls prog 212 #[.agg (el t).toArray] w fun e w' => e = .returned (.int .u64 t.left) /\ Below w.heap.size w w' := by
 have hB := aE (aH w) (oE iQ t)
 have X := pB w iQ t
 have hl := aDc hen hm
 have ha : t.sec < t.alarm := by unfold Rk.met at hm; rw [hen] at hm; simpa using hm
 obtain ⟨a0, a1⟩ := Rk.alarm_bounds h
 obtain ⟨L, hL⟩ : ∃ L, t.left = L := ⟨_, rfl⟩
 rw [hL] at hl ⊢
 clear hL hen hm
 have x0 := X.c0
 have x1 := X.c1
 have x3 := X.c3
 have x4 := X.c4
 obtain ⟨A, hA⟩ : ∃ A, t.alarm = A := ⟨_, rfl⟩
 rw [hA] at hl a0 a1 ha x4
 clear hA X
 have HE := Hd hl
 obtain ⟨d0, d1, r0, r1, _, _, s0, s1, _, _, _, _⟩ := h
 have hne : (t.div == 0) = false := by simp; omega
 clear hl
 go_enter func212, ntmps212
 go_upto_region 1 with (fail)
 rw [aDq]
 generalize w.alloc (oE iQ t) = W at *
 go_upto_region 4 with (fail)
 have hx := yH (A - t.sec - 1) t.div (t.div - t.rest) d0
 by_cases hov : sS < (A - t.sec - 1) * t.div + (t.div - t.rest)
 . have h1 := hx.2 hov
   unfold sS at h1
   have HE2 := Hd (HE.out.trans (if_pos hov))
   clear hx hov HE
   go_wp2_with fail
   go_ret
   exact ⟨bJ HE2.out.symm, hB⟩
 . have h1 : ¬ (18446744073709551615 - (t.div - t.rest)) / t.div < A - t.sec - 1 := fun e => hov (hx.1 e)
   have p0 : 0 <= (A - t.sec - 1) * t.div := Int.mul_nonneg (by omega) (by omega)
   have p1 : t.div - t.rest + (A - t.sec - 1) * t.div < 18446744073709551616 := by unfold sS at hov; omega
   have p2 : (A - t.sec - 1) * t.div < 18446744073709551616 := by omega
   have HE2 := Hd ((HE.out.trans (if_neg hov)).trans (Int.add_comm _ _))
   clear hx hov HE
   go_wp2_with fail
   go_ret
   exact ⟨bJ HE2.out.symm, hB⟩
theorem aGW {t : Rk} (h : t.en = false \/ t.met = true) : t.left = sS := by
 unfold Rk.left
 rw [if_neg (fun e => by rcases h with h | h <;> simp [h] at e)]
theorem aN4 (t : Rk) (p : Nat) (w : World) (h : t.ok) (a : dB w p dK t) :
 Calls prog 173 #[.pointer (some ⟨p, 0, none⟩)] w fun e w' => e = .returned (.int .u64 t.left) /\ Below w.heap.size w w' := by
 have M := Hd (fun w => aIY t w h)
 have S := Hd (fun w hen hm => aLc t w h hen hm)
 have HO := Hd (fun h => aGW (t := t) h)
 obtain ⟨L, hL⟩ : ∃ L, t.left = L := ⟨_, rfl⟩
 rw [hL] at S HO ⊢
 clear hL h
 have hen : ∀ X : World -> Prop, (∃ en, t.en = en) := fun _ => ⟨_, rfl⟩
 obtain ⟨en, hen⟩ := hen fun _ => True
 obtain ⟨m, hm⟩ : ∃ m, t.met = m := ⟨_, rfl⟩
 rw [hm] at M HO S
 rw [hen] at HO S
 have HEN := Hd hen
 clear hen hm
 cases en
 . have hv := HO.out (Or.inl rfl)
   subst hv
   clear HO S M
   go_enter func173, ntmps173
   go_wp2_with fail
   refine (tR t p _ a).mono ?_
   rintro e w1 ⟨rfl, hb⟩
   have X := pB w1 iQ mI
   have B1 := aE hb (oE iQ mI)
   have Y := dB.row X t
   have B2 := aB B1 (el t).toArray (g := w1.heap.size) (by have := hb.size; omega)
   go_upto_region 2 with (first | (refine sC rfl (.tmp 3) (.tmp 5) rfl rfl (t := t) rfl (by rw [yZ]; exact X) ?_))
   rw [yZ]
   clear a X hb B1
   generalize (w1.alloc (oE iQ mI)).setRow w1.heap.size (el t).toArray = W at *
   have x5 := Y.c5
   rw [HEN.out] at x5
   unfold tk at x5
   clear HEN
   go_wp2_with fail
   go_ret
   exact ⟨rfl, B2⟩
 . go_enter func173, ntmps173
   go_wp2_with fail
   refine (tR t p _ a).mono ?_
   rintro e w1 ⟨rfl, hb⟩
   have X := pB w1 iQ mI
   have B1 := aE hb (oE iQ mI)
   have Y := dB.row X t
   have B2 := aB B1 (el t).toArray (g := w1.heap.size) (by have := hb.size; omega)
   go_upto_region 2 with (first | (refine sC rfl (.tmp 3) (.tmp 5) rfl rfl (t := t) rfl (by rw [yZ]; exact X) ?_))
   rw [yZ]
   clear a X hb B1
   generalize (w1.alloc (oE iQ mI)).setRow w1.heap.size (el t).toArray = W at *
   have x5 := Y.c5
   rw [HEN.out] at x5
   unfold tk at x5
   clear HEN
   go_wp2_with (first | (refine aL9 (.tmp 3) rfl rfl rfl Y ?_) | (refine yI rfl (.tmp 3) rfl rfl Y ?_))
   refine (M.out _).mono ?_
   rintro e w2 ⟨rfl, hb⟩
   have Y2 := Y.below hb
   have B3 := tr B2 hb
   clear x5 Y B2 hb M
   cases m
   . have S2 := Hd (fun w => S.out w (by simp) (by simp))
     clear S HO
     go_wp2_with (refine yI rfl (.tmp 3) rfl rfl Y2 ?_)
     refine (S2.out _).mono ?_
     rintro e w3 ⟨rfl, hb⟩
     have B4 := tr B3 hb
     go_wp2_with fail
     go_ret
     exact ⟨rfl, B4⟩
   . have hv := HO.out (Or.inr rfl)
     subst hv
     clear HO S
     go_wp2_with fail
     go_ret
     exact ⟨rfl, B3⟩
theorem aCT (t : Rk) (o : Int) (p : Nat) (w : World) (h : t.ok) (a : dB w p dK t) (o0 : 0 <= o) (o1 : o < 4294967296) :
 Calls prog 209 #[.pointer (some ⟨p, 0, none⟩), .int .u32 o] w fun e w' => e = .returned (.int .i64 (bF o)) /\ Below w.heap.size w w' := by
 have HN := Hd (fun w => aKF t w h)
 cases h4 : (o % 4 != 0)
 . by_cases h36 : 36 <= o
   . have HE := Hd (show bF o = 10 by unfold bF; rw [if_neg (by simpa using h4), if_pos h36])
     go_enter func209, ntmps209
     go_wp2_with fail
     refine (tR t p _ a).mono ?_
     exact jZ
   . have HE := Hd (show bF o = 0 by unfold bF; rw [if_neg (by simpa using h4), if_neg h36])
     go_enter func209, ntmps209
     go_wp2_with fail
     refine (tR t p _ a).mono ?_
     exact jZ
 . have HE := Hd (show bF o = 11 by unfold bF; rw [if_pos (by simpa using h4)])
   go_enter func209, ntmps209
   go_wp2_with fail
   refine (tR t p _ a).mono ?_
   exact jZ
theorem xI {P : Prop} (h : P := by
 clear he h a b0 b1
 go_enter func210, ntmps210
 go_wp2_with (go_at_call 56; refine (HC.out _).mono ?_; rintro e w' ⟨rfl, rfl⟩)
 go_ret
 exact ⟨rfl, rfl⟩
 ) : P := h
theorem xN {P : Prop} (h : P := by
 clear he h a b0 b1
 go_enter func210, ntmps210
 go_wp2_with (go_at_call 55; refine (HC.out _).mono ?_; rintro e w' ⟨rfl, rfl⟩)
 go_ret
 exact ⟨rfl, rfl⟩
 ) : P := h
theorem aLg (t : Rk) (o : Int) (p : Nat) (w : World) (h : t.ok) (a : dB w p dK t) (o0 : 0 <= o) (he : bF o = 0) :
 Calls prog 210 #[.pointer (some ⟨p, 0, none⟩), .int .u32 o] w fun e w' => e = .returned (.int .u32 (t.val o)) /\ w = w' := by
 obtain ⟨V, hV⟩ : ∃ V, t.val o = V := ⟨_, rfl⟩
 rw [hV]
 obtain ⟨b0, b1⟩ := Rk.alarm_bounds h
 rcases lW o0 he with rfl | rfl | rfl | rfl | rfl | rfl | rfl | rfl | rfl
 . replace hV : lo t.sec = V := hV
   subst hV
   have HC := Hd (fun w => Lo t.sec w h.s0 h.s1)
   have x := a.c3
   exact xN
 . replace hV : hi t.sec = V := hV
   subst hV
   have HC := Hd (fun w => Hi t.sec w h.s0 h.s1)
   have x := a.c3
   exact xI
 . replace hV : t.set = V := hV
   subst hV
   have x := a.c2
   clear he h a b0 b1
   go_enter func210, ntmps210
   exact aU
 . replace hV : 0 = V := hV
   subst hV
   clear he h a b0 b1
   go_enter func210, ntmps210
   exact aU
 . replace hV : t.al = V := hV
   subst hV
   have HC := Hd (fun w => by have := Lo t.alarm w b0 b1; unfold Rk.alarm at this; rw [aBJ _ _ h.l0 h.l1] at this; exact this)
   have x := a.c4
   exact xN
 . replace hV : t.ah = V := hV
   subst hV
   have HC := Hd (fun w => by have := Hi t.alarm w b0 b1; unfold Rk.alarm at this; rw [aA7 _ _ h.l0 h.l1] at this; exact this)
   have x := a.c4
   exact xI
 . replace hV : tk t.en = V := hV
   subst hV
   have x := a.c5
   clear he h a b0 b1
   go_enter func210, ntmps210
   exact aU
 . replace hV : tk t.st = V := hV
   subst hV
   have x := a.c6
   clear he h a b0 b1
   go_enter func210, ntmps210
   exact aU
 . replace hV : t.div = V := hV
   subst hV
   have x := a.c0
   clear he h a b0 b1
   go_enter func210, ntmps210
   exact aU
theorem aKE (t : Rk) (o : Int) (p : Nat) (w : World) (h : t.ok) (a : dB w p dK t) (o0 : 0 <= o) (o1 : o < 4294967296) :
 Calls prog 166 #[.pointer (some ⟨p, 0, none⟩), .int .u32 o] w fun e w' => e = .returned (.tuple #[.int .u32 (t.valE o), .int .i64 (bF o)]) /\ Below w.heap.size w w' := by
 have HC := Hd (fun w a => aCT t o p w h a o0 o1)
 have HV := Hd (fun w a he => aLg t o p w h a o0 he)
 have HD := Hd (show t.valE o = if bF o = 0 then t.val o else 0 from rfl)
 obtain ⟨V, hV⟩ : ∃ V, t.valE o = V := ⟨_, rfl⟩
 obtain ⟨U, hU⟩ : ∃ U, t.val o = U := ⟨_, rfl⟩
 obtain ⟨E, hE⟩ : ∃ E, bF o = E := ⟨_, rfl⟩
 rw [hV, hU, hE] at HD
 rw [hV, hE]
 rw [hE] at HC HV
 rw [hU] at HV
 clear hV hU hE h
 by_cases he : E = 0
 . subst he
   have hv := HD.out
   rw [if_pos rfl] at hv
   subst hv
   have HV2 := Hd (fun w a => HV.out w a rfl)
   clear HV HD
   go_enter func166, ntmps166
   go_wp2_with fail
   refine (HC.out _ a).mono ?_
   rintro e w1 ⟨rfl, h1⟩
   have A := a.below h1
   go_wp2_with fail
   refine (HV2.out _ A).mono ?_
   rintro e w2 ⟨rfl, rfl⟩
   exact iU
 . have hv := HD.out
   rw [if_neg he] at hv
   subst hv
   have hn : (E == 0) = false := by simpa using he
   have hn2 : (E != 0) = true := by simpa using he
   clear HV HD he
   go_enter func166, ntmps166
   go_wp2_with fail
   refine (HC.out _ a).mono ?_
   rintro e w1 ⟨rfl, h1⟩
   exact iU
theorem aLd (t : Rk) (p : Nat) (w : World) (a : dB w p dK t) :
 Calls prog 295 #[.pointer (some ⟨p, 0, none⟩)] w fun e w' => e = .returned (.tuple #[]) /\ dB w' p dK t.zero /\ aF (· = p) w w' := by
 have x0 := a.c0
 have x1 := a.c1
 have x3 := a.c3
 have hl := a.lt
 go_enter func295, ntmps295
 go_upto_region 1 with (fail)
 have hg := bC
 have hf := dE
 refine aM 19 (by kernel_rfl) (by kernel_rfl) ?_
 simp only [List.take_succ_cons, List.take_zero, List.drop_succ_cons, List.drop_zero]
 repeat (go_big_quiet_step (fail))
 refine wpQuiet_nil ?_
 intro _ hw'
 obtain ⟨⟨dq, osq⟩, hw''⟩ := hw'
 subst hw''
 have hb := below_regrown w dq osq
 have A := a.below hb
 have ho := aF.ofBelow (S := (· = p)) hb
 clear x0 x1 x3 hl hg hf a hb
 generalize grow (redrawn w dq) osq = W at *
 go_wp2_with (refine sC rfl (.tmp 22) (.tmp 20) rfl rfl (t := t.zero) rfl A ?_)
 go_end0
 exact ⟨rfl, dB.row A t.zero, ho.trans (aBP _ _ _)⟩
end Go.Proofs.YtaohacadochldaaGreat.B
