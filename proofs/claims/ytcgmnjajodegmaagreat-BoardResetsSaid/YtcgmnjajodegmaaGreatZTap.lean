/- Several texts in one: The document's own answers of layer 5: Line, Load. The document's own answers of layer 5: Store. -/
import Derived.Test.YtcgmnjajodegmaaGreatZTan
set_option linter.unusedVariables false
set_option linter.unusedSimpArgs false
namespace Go.Proofs.YtcgmnjajodegmaaGreat.B
open Go.ChangeShapes Go.WideShapes Go.RowKit Go.Sort
set_option maxHeartbeats 800000 in
theorem rcLine (h t : Int) (n : Nat) (D S : Nat -> Int) (w : World) (n8 : n <= 8) (hD : okD D) :
 Calls Tryz.prog 48 #[.agg (rcl t n D S).toArray, .int .i64 h] w fun e w' => e = .returned (.bool (cLn t n D h)) /\ Below w.heap.size w w' := by
 have cC := Hd (fun w => rcCompare h t n D S w n8 hD)
 unfold rcl
 have h0 : RcAt (w.alloc (.cells (rcr t n (fun i => lo (D i)) (fun i => hi (D i)) S).toArray 36)) w.heap.size t n (fun i => lo (D i)) (fun i => hi (D i)) S := blk_new w _
 have hb := trA (tr0 w) (.cells (rcr t n (fun i => lo (D i)) (fun i => hi (D i)) S).toArray 36)
 have hl := h0.lt
 have cN := h0.cN
 have cT := h0.cT
 have hg := gcell
 cases hq : isHart n h
 . rw [show cLn t n D h = false by unfold cLn; rw [hq]; rfl]
   have hh : ¬ (0 <= h /\ h < (n : Int)) := by unfold isHart at hq; simpa using hq
   by_cases hz : 0 <= h
   . have q0 : decide (0 <= h) = true := decide_eq_true hz
     have q1 : decide (h < (n : Int)) = false := decide_eq_false (fun e => hh ⟨hz, e⟩)
     go_enter Tryz.func48, Tryz.ntmps48
     go_upto_region 1 with (fail)
     generalize (w.alloc (.cells (rcr t n (fun i => lo (D i)) (fun i => hi (D i)) S).toArray 36)) = W at *
     clear h0 hh hq
     go_wp2_with fail
     refine wp_region_quiet_below (by kernel_rfl) (by kernel_rfl) ?_
     repeat (go_big_quiet_step (fail))
     refine wpQuiet_nil ?_
     intro _ hw'
     obtain ⟨⟨dq, osq⟩, hw''⟩ := hw'
     subst hw''
     go_wp2_with fail
     go_ret
     exact ⟨rfl, trG hb _ _⟩
   . have q0 : decide (0 <= h) = false := decide_eq_false hz
     go_enter Tryz.func48, Tryz.ntmps48
     go_upto_region 1 with (fail)
     generalize (w.alloc (.cells (rcr t n (fun i => lo (D i)) (fun i => hi (D i)) S).toArray 36)) = W at *
     clear h0 hh hq
     go_wp2_with fail
     refine wp_region_quiet_below (by kernel_rfl) (by kernel_rfl) ?_
     repeat (go_big_quiet_step (fail))
     refine wpQuiet_nil ?_
     intro _ hw'
     obtain ⟨⟨dq, osq⟩, hw''⟩ := hw'
     subst hw''
     go_wp2_with fail
     go_ret
     exact ⟨rfl, trG hb _ _⟩
 . have hh : 0 <= h /\ h < (n : Int) := by unfold isHart at hq; simpa using hq
   obtain ⟨k, rfl⟩ := Int.eq_ofNat_of_zero_le hh.1
   rw [show cLn t n D (k : Int) = decide (D k <= t) by unfold cLn; rw [hq]; rfl]
   have e : cCmp n D (k : Int) = D k := by unfold cCmp; rw [if_pos hq]; rfl
   have cC2 := Hd (fun w => by have := cC.out w; rw [e] at this; exact this)
   have hkn : (k : Int) < n := hh.2
   have q0 : decide ((0 : Int) <= (k : Int)) = true := decide_eq_true (by omega)
   have q1 : decide ((k : Int) < (n : Int)) = true := decide_eq_true hkn
   clear hq hh e cC
   unfold rcl at cC2
   go_enter Tryz.func48, Tryz.ntmps48
   go_upto_region 1 with (fail)
   generalize (w.alloc (.cells (rcr t n (fun i => lo (D i)) (fun i => hi (D i)) S).toArray 36)) = W at *
   have HB := Hd h0
   clear h0
   go_wp2_with fail
   refine wp_region_quiet_below (by kernel_rfl) (by kernel_rfl) ?_
   repeat (first
    | go_big_quiet_skip
    | (go_big_quiet_want; first
        | (refine qloadC (.tmp 2) rfl rfl (grown_block HB.out) ?_; go_simp; go_big_quiet_on)
        | (go_big_quiet_op; first
            | go_big_quiet_on
            | go_big_quiet_call (first | (go_at_call 47; exact Calls.regrown_of (cC2.out _))))))
   refine wpQuiet_nil ?_
   intro _ hw'
   obtain ⟨⟨dq, osq⟩, hw''⟩ := hw'
   subst hw''
   go_wp2_with fail
   go_ret
   exact ⟨rfl, trG hb _ _⟩
set_option maxHeartbeats 1600000 in
theorem rcLoad (o t : Int) (n : Nat) (D S : Nat -> Int) (w : World) (n8 : n <= 8) (hD : okD D) (t0 : 0 <= t) (t1 : t < 18446744073709551616) (o0 : 0 <= o) (o1 : o < 4294967296) :
 Calls Tryz.prog 89 #[.agg (rcl t n D S).toArray, .int .u32 o] w fun e w' => e = .returned (.tuple #[.int .u32 (cVal t n D S o), .int .i64 (cErr n o)]) /\ Below w.heap.size w w' := by
 unfold rcl
 have h0 : RcAt (w.alloc (.cells (rcr t n (fun i => lo (D i)) (fun i => hi (D i)) S).toArray 36)) w.heap.size t n (fun i => lo (D i)) (fun i => hi (D i)) S := blk_new w _
 have hb := trA (tr0 w) (.cells (rcr t n (fun i => lo (D i)) (fun i => hi (D i)) S).toArray 36)
 have hl := h0.lt
 have cN := h0.cN
 have cT := h0.cT
 by_cases h4 : o % 4 = 0
 . have n4 : (o % 4 != 0) = false := ne4 h4
   by_cases e1 : o = 49144
   . subst e1
     rw [lo_val, lo_err]
     go_enter Tryz.func89, Tryz.ntmps89
     go_wp2_with (first | (go_at_call 154; refine (rLo _ _ t0 t1).mono ?_; rintro e w' ⟨rfl, rfl⟩))
     go_ret2
     exact ⟨rfl, hb⟩
   . by_cases e2 : o = 49148
     . subst e2
       rw [hi_val, hi_err]
       go_enter Tryz.func89, Tryz.ntmps89
       go_wp2_with (first | (go_at_call 155; refine (rHi _ _ t0 t1).mono ?_; rintro e w' ⟨rfl, rfl⟩))
       go_ret2
       exact ⟨rfl, hb⟩
     . have b1 : (o == 49144) = false := by simpa using e1
       have b2 : (o == 49148) = false := by simpa using e2
       obtain ⟨V, hV⟩ : ∃ V, cVal t n D S o = V := ⟨_, rfl⟩
       obtain ⟨E, hE⟩ : ∃ E, cErr n o = E := ⟨_, rfl⟩
       rw [hV, hE]
       have HV := Hd hV
       have HE := Hd hE
       have H1 := Hd e1
       have H2 := Hd e2
       clear hV hE e1 e2
       go_enter Tryz.func89, Tryz.ntmps89
       go_upto_region 8 with (fail)
       generalize (w.alloc (.cells (rcr t n (fun i => lo (D i)) (fun i => hi (D i)) S).toArray 36)) = W at *
       have H0 := Hd h0
       clear h0
       go_loop [6] (fun i => ∃ k : Nat, k <= n /\ i = .int .i64 k /\ Hid (∀ j : Nat, j < k -> o ≠ 4 * (j : Int) /\ o ≠ 16384 + 8 * (j : Int) /\ o ≠ 16384 + 8 * (j : Int) + 4)) (fun i => n - (intOf i).toNat)
       case atStart => exact ⟨0, by omega, rfl, Hd fun j hj => by omega⟩
       case round =>
        obtain ⟨k, hk, rfl, HN⟩ := hrel
        by_cases hlt : k < n
        . have hk8 : k < 8 := by omega
          have cL := H0.out.cL k hk8
          have cH := H0.out.cH k hk8
          have cS := H0.out.cS k hk8
          by_cases g1 : o = 4 * (k : Int)
          . have HV2 := Hd (show V = S k by rw [<- HV.out, g1, soft_val hlt n8])
            have HE2 := Hd (show E = 0 by rw [<- HE.out, g1, soft_err hlt])
            have q1 : (o == 4 * (k : Int)) = true := by simpa using g1
            clear g1
            go_wp2_with fail
            go_ret2
            exact ⟨by rw [HV2.out, HE2.out]; rfl, hb⟩
          . have q1 : (o == 4 * (k : Int)) = false := by simpa using g1
            by_cases g2 : o = 16384 + 8 * (k : Int)
            . have HV2 := Hd (show V = lo (D k) by rw [<- HV.out, g2, low_val hlt n8])
              have HE2 := Hd (show E = 0 by rw [<- HE.out, g2, low_err hlt])
              have q2 : (o == 16384 + 8 * (k : Int)) = true := by simpa using g2
              clear g1 g2
              go_wp2_with fail
              go_ret2
              exact ⟨by rw [HV2.out, HE2.out]; rfl, hb⟩
            . have q2 : (o == 16384 + 8 * (k : Int)) = false := by simpa using g2
              by_cases g3 : o = 16384 + 8 * (k : Int) + 4
              . have HV2 := Hd (show V = hi (D k) by rw [<- HV.out, g3, high_val hlt n8])
                have HE2 := Hd (show E = 0 by rw [<- HE.out, g3, high_err hlt])
                have q3 : (o == 16388 + 8 * (k : Int)) = true := by simp; omega
                clear g1 g2 g3
                go_wp2_with fail
                go_ret2
                exact ⟨by rw [HV2.out, HE2.out]; rfl, hb⟩
              . have q3 : (o == 16388 + 8 * (k : Int)) = false := by simp; omega
                have HN2 := Hd (show ∀ j : Nat, j < k + 1 -> o ≠ 4 * (j : Int) /\ o ≠ 16384 + 8 * (j : Int) /\ o ≠ 16384 + 8 * (j : Int) + 4 from fun j hj => by
                 by_cases e : j = k
                 . subst e; exact ⟨g1, g2, g3⟩
                 . exact HN.out j (by omega))
                clear g1 g2 g3
                go_wp2_with fail
                go_round
                case rel => exact ⟨k + 1, by omega, by go_num, HN2⟩
                case measure => simp [intOf]; omega
        . obtain rfl : k = n := by omega
          have he := none_err (n := k) o0 h4 H1.out H2.out HN.out
          have HE2 := Hd (show E = 10 by rw [<- HE.out, he])
          have HV2 := Hd (show V = 0 by rw [<- HV.out, err_val (by rw [he]; omega)])
          clear he
          go_wp2_with fail
          go_ret2
          exact ⟨by rw [HV2.out, HE2.out]; rfl, hb⟩
 . have n4 : (o % 4 != 0) = true := by simpa using h4
   rw [odd_err h4, err_val (by rw [odd_err h4]; omega)]
   go_enter Tryz.func89, Tryz.ntmps89
   go_wp2_with fail
   go_ret2
   exact ⟨rfl, hb⟩
theorem upd_map (f : Int -> Int) (D : Nat -> Int) (h : Nat) (v : Int) : (fun i => f (upd D h v i)) = upd (fun i => f (D i)) h (f v) := by
 funext i; unfold upd; split <;> rfl
theorem upd_keep (f : Int -> Int) (D : Nat -> Int) (h : Nat) (v : Int) (e : f v = f (D h)) : (fun i => f (upd D h v i)) = fun i => f (D i) := by
 rw [upd_map, e]; exact upd_same (fun i => f (D i)) h
theorem rcStoreErr (o v t : Int) (n : Nat) (D S : Nat -> Int) (w : World) (n8 : n <= 8) (hD : okD D) (t0 : 0 <= t) (t1 : t < 18446744073709551616) (o0 : 0 <= o) (o1 : o < 4294967296) (v0 : 0 <= v) (v1 : v < 4294967296) (he : (cErr n o != 0) = true) (hs : cErrS n o = cErr n o) :
 Calls Tryz.prog 95 #[.agg (rcl t n D S).toArray, .int .u32 o, .int .u32 v] w fun e w' => e = .returned (.tuple #[.agg (rcl t n D S).toArray, .int .i64 (cErrS n o)]) /\ Below w.heap.size w w' := by
 rw [hs]
 obtain ⟨E, hE⟩ : ∃ E, cErr n o = E := ⟨_, rfl⟩
 rw [hE] at he ⊢
 have hLd := Hd (fun w => by have := rcLoad o t n D S w n8 hD t0 t1 o0 o1; rw [hE] at this; exact this)
 have he2 : (E == 0) = false := by simpa using he
 clear hE hs
 unfold rcl at hLd ⊢
 have h0 : RcAt ((w.alloc (.cells (rcr t n (fun i => lo (D i)) (fun i => hi (D i)) S).toArray 36)).alloc zC) w.heap.size t n (fun i => lo (D i)) (fun i => hi (D i)) S := b2_0 w _ _
 have h1 : RcAt ((w.alloc (.cells (rcr t n (fun i => lo (D i)) (fun i => hi (D i)) S).toArray 36)).alloc zC) (w.heap.size + 1) 0 0 zeS zeS zeS := b2_1 w _ _
 have hb := trA (trA (tr0 w) (.cells (rcr t n (fun i => lo (D i)) (fun i => hi (D i)) S).toArray 36)) zC
 go_enter Tryz.func95, Tryz.ntmps95
 go_wp2_with (refine loadC rfl (.tmp 3) rfl rfl (b2_0 w _ _) ?_)
 rw [zC_eq]
 generalize ((w.alloc (.cells (rcr t n (fun i => lo (D i)) (fun i => hi (D i)) S).toArray 36)).alloc zC) = W at *
 refine (hLd.out W).mono ?_
 rintro e W1 ⟨rfl, hz⟩
 have g0 := h0.below hz
 have g1 := h1.below hz
 have hbw := tr hb hz
 clear h0 h1 hb hz hLd
 go_wp2_with (first | (refine loadC rfl (.tmp 3) rfl rfl g0 ?_) | (refine storeC rfl (.tmp 6) (.tmp 19) rfl rfl rfl g1 (by rw [List.size_toArray, rcr_len]) ?_))
 exact bodyPost_ret (v := .tuple #[.agg (rcr t n (fun i => lo (D i)) (fun i => hi (D i)) S).toArray, .int .i64 E]) (resC2 Tryz.results95 _ _ _ rfl rfl (RcAt.row g1)) rfl ⟨rfl, below_setRow hbw _ (by omega)⟩
theorem rcStoreTime (o v t : Int) (n : Nat) (D S : Nat -> Int) (w : World) (n8 : n <= 8) (hD : okD D) (t0 : 0 <= t) (t1 : t < 18446744073709551616) (o0 : 0 <= o) (o1 : o < 4294967296) (v0 : 0 <= v) (v1 : v < 4294967296) (he : cErr n o = 0) (hs : 49144 <= o) :
 Calls Tryz.prog 95 #[.agg (rcl t n D S).toArray, .int .u32 o, .int .u32 v] w fun e w' => e = .returned (.tuple #[.agg (rcl t n D S).toArray, .int .i64 12]) /\ Below w.heap.size w w' := by
 have hLd := Hd (fun w => by have := rcLoad o t n D S w n8 hD t0 t1 o0 o1; rw [he] at this; exact this)
 clear he
 unfold rcl at hLd ⊢
 have h0 : RcAt ((w.alloc (.cells (rcr t n (fun i => lo (D i)) (fun i => hi (D i)) S).toArray 36)).alloc zC) w.heap.size t n (fun i => lo (D i)) (fun i => hi (D i)) S := b2_0 w _ _
 have h1 : RcAt ((w.alloc (.cells (rcr t n (fun i => lo (D i)) (fun i => hi (D i)) S).toArray 36)).alloc zC) (w.heap.size + 1) 0 0 zeS zeS zeS := b2_1 w _ _
 have hb := trA (trA (tr0 w) (.cells (rcr t n (fun i => lo (D i)) (fun i => hi (D i)) S).toArray 36)) zC
 go_enter Tryz.func95, Tryz.ntmps95
 go_wp2_with (refine loadC rfl (.tmp 3) rfl rfl (b2_0 w _ _) ?_)
 rw [zC_eq]
 generalize ((w.alloc (.cells (rcr t n (fun i => lo (D i)) (fun i => hi (D i)) S).toArray 36)).alloc zC) = W at *
 refine (hLd.out W).mono ?_
 rintro e W1 ⟨rfl, hz⟩
 have g0 := h0.below hz
 have g1 := h1.below hz
 have hbw := tr hb hz
 clear h0 h1 hb hz hLd
 go_wp2_with (first | (refine loadC rfl (.tmp 3) rfl rfl g0 ?_) | (refine storeC rfl (.tmp 6) (.tmp 23) rfl rfl rfl g1 (by rw [List.size_toArray, rcr_len]) ?_))
 exact bodyPost_ret (v := .tuple #[.agg (rcr t n (fun i => lo (D i)) (fun i => hi (D i)) S).toArray, .int .i64 12]) (resC2 Tryz.results95 _ _ _ rfl rfl (RcAt.row g1)) rfl ⟨rfl, below_setRow hbw _ (by omega)⟩
theorem rcStoreSoft (o v t : Int) (h n : Nat) (D S : Nat -> Int) (w : World) (n8 : n <= 8) (hD : okD D) (t0 : 0 <= t) (t1 : t < 18446744073709551616) (o0 : 0 <= o) (o1 : o < 4294967296) (v0 : 0 <= v) (v1 : v < 4294967296) (hn : h < n) (ho : o = 4 * (h : Int)) :
 Calls Tryz.prog 95 #[.agg (rcl t n D S).toArray, .int .u32 o, .int .u32 v] w fun e w' => e = .returned (.tuple #[.agg (rcl t n D (upd S h (v % 2))).toArray, .int .i64 0]) /\ Below w.heap.size w w' := by
 have hk : h < 8 := by omega
 have he : cErr n o = 0 := by rw [ho]; exact soft_err hn
 have q0 : o / 4 = (h : Int) := by omega
 have q1 : o < 16384 := by omega
 have q2 : ¬ (49144 <= o) := by omega
 clear ho
 have hLd := Hd (fun w => by have := rcLoad o t n D S w n8 hD t0 t1 o0 o1; rw [he] at this; exact this)
 clear he
 unfold rcl at hLd ⊢
 have h0 : RcAt ((w.alloc (.cells (rcr t n (fun i => lo (D i)) (fun i => hi (D i)) S).toArray 36)).alloc zC) w.heap.size t n (fun i => lo (D i)) (fun i => hi (D i)) S := b2_0 w _ _
 have h1 : RcAt ((w.alloc (.cells (rcr t n (fun i => lo (D i)) (fun i => hi (D i)) S).toArray 36)).alloc zC) (w.heap.size + 1) 0 0 zeS zeS zeS := b2_1 w _ _
 have hb := trA (trA (tr0 w) (.cells (rcr t n (fun i => lo (D i)) (fun i => hi (D i)) S).toArray 36)) zC
 go_enter Tryz.func95, Tryz.ntmps95
 go_wp2_with (refine loadC rfl (.tmp 3) rfl rfl (b2_0 w _ _) ?_)
 rw [zC_eq]
 generalize ((w.alloc (.cells (rcr t n (fun i => lo (D i)) (fun i => hi (D i)) S).toArray 36)).alloc zC) = W at *
 refine (hLd.out W).mono ?_
 rintro e W1 ⟨rfl, hz⟩
 have g0 := h0.below hz
 have g1 := h1.below hz
 have hbw := tr hb hz
 clear h0 h1 hb hz hLd
 have c := g0.cS h hk
 have fr := g0.free (17 + h)
 have k0 := g0.setS h (v % 2) hk
 have k1 := g1.other w.heap.size (17 + h) (.int .u32 (v % 2)) (by omega)
 have hb2 := hbw.setCell (p := ⟨w.heap.size, 17 + h, none⟩) (Nat.le_refl _) (.int .u32 (v % 2))
 have K0 := Hd k0
 have K1 := Hd k1
 clear g0 g1 k0 k1
 go_wp2_with (first | (refine loadC rfl (.tmp 3) rfl rfl K0.out ?_) | (refine storeC rfl (.tmp 6) (.tmp 32) rfl rfl rfl K1.out (by rw [List.size_toArray, rcr_len]) ?_))
 refine bodyPost_ret (v := .tuple #[.agg (rcr t n (fun i => lo (D i)) (fun i => hi (D i)) (upd S h (v % 2))).toArray, .int .i64 0]) (resC2 Tryz.results95 _ _ _ rfl rfl (RcAt.row K1.out)) rfl ⟨?_, below_setRow hb2 _ (by omega)⟩
 rw [show rcr t n (fun i => lo (D i)) (fun i => hi (D i)) (upd S h (v % 2)) = rcl t n D (upd S h (v % 2)) from rfl]
theorem rcStoreLow (o v t : Int) (h n : Nat) (D S : Nat -> Int) (w : World) (n8 : n <= 8) (hD : okD D) (t0 : 0 <= t) (t1 : t < 18446744073709551616) (o0 : 0 <= o) (o1 : o < 4294967296) (v0 : 0 <= v) (v1 : v < 4294967296) (hn : h < n) (ho : o = 16384 + 8 * (h : Int)) :
 Calls Tryz.prog 95 #[.agg (rcl t n D S).toArray, .int .u32 o, .int .u32 v] w fun e w' => e = .returned (.tuple #[.agg (rcl t n (upd D h (join (hi (D h)) v)) S).toArray, .int .i64 0]) /\ Below w.heap.size w w' := by
 have hk : h < 8 := by omega
 have he : cErr n o = 0 := by rw [ho]; exact low_err hn
 have q0 : (o - 16384) / 8 = (h : Int) := by omega
 have q1 : ¬ (o < 16384) := by omega
 have q2 : ¬ (49144 <= o) := by omega
 have q3 : (o % 8 == 0) = true := by simp; omega
 clear ho
 have hLd := Hd (fun w => by have := rcLoad o t n D S w n8 hD t0 t1 o0 o1; rw [he] at this; exact this)
 clear he
 unfold rcl at hLd ⊢
 have h0 : RcAt ((w.alloc (.cells (rcr t n (fun i => lo (D i)) (fun i => hi (D i)) S).toArray 36)).alloc zC) w.heap.size t n (fun i => lo (D i)) (fun i => hi (D i)) S := b2_0 w _ _
 have h1 : RcAt ((w.alloc (.cells (rcr t n (fun i => lo (D i)) (fun i => hi (D i)) S).toArray 36)).alloc zC) (w.heap.size + 1) 0 0 zeS zeS zeS := b2_1 w _ _
 have hb := trA (trA (tr0 w) (.cells (rcr t n (fun i => lo (D i)) (fun i => hi (D i)) S).toArray 36)) zC
 go_enter Tryz.func95, Tryz.ntmps95
 go_wp2_with (refine loadC rfl (.tmp 3) rfl rfl (b2_0 w _ _) ?_)
 rw [zC_eq]
 generalize ((w.alloc (.cells (rcr t n (fun i => lo (D i)) (fun i => hi (D i)) S).toArray 36)).alloc zC) = W at *
 refine (hLd.out W).mono ?_
 rintro e W1 ⟨rfl, hz⟩
 have g0 := h0.below hz
 have g1 := h1.below hz
 have hbw := tr hb hz
 clear h0 h1 hb hz hLd
 have c := g0.cL h hk
 have fr := g0.free (1 + h)
 have k0 := g0.setL h v hk
 have k1 := g1.other w.heap.size (1 + h) (.int .u32 v) (by omega)
 have hb2 := hbw.setCell (p := ⟨w.heap.size, 1 + h, none⟩) (Nat.le_refl _) (.int .u32 v)
 have K0 := Hd k0
 have K1 := Hd k1
 clear g0 g1 k0 k1
 go_wp2_with (first | (refine loadC rfl (.tmp 3) rfl rfl K0.out ?_) | (refine storeC rfl (.tmp 6) (.tmp 47) rfl rfl rfl K1.out (by rw [List.size_toArray, rcr_len]) ?_))
 refine bodyPost_ret (v := .tuple #[.agg (rcr t n (upd (fun i => lo (D i)) h v) (fun i => hi (D i)) S).toArray, .int .i64 0]) (resC2 Tryz.results95 _ _ _ rfl rfl (RcAt.row K1.out)) rfl ⟨?_, below_setRow hb2 _ (by omega)⟩
 rw [show rcr t n (upd (fun i => lo (D i)) h v) (fun i => hi (D i)) S = rcl t n (upd D h (join (hi (D h)) v)) S from by unfold rcl; rw [upd_map lo, upd_keep hi D h _ (hi_join v0 v1), lo_join v0 v1]]
 rfl
theorem rcStoreHigh (o v t : Int) (h n : Nat) (D S : Nat -> Int) (w : World) (n8 : n <= 8) (hD : okD D) (t0 : 0 <= t) (t1 : t < 18446744073709551616) (o0 : 0 <= o) (o1 : o < 4294967296) (v0 : 0 <= v) (v1 : v < 4294967296) (hn : h < n) (ho : o = 16384 + 8 * (h : Int) + 4) :
 Calls Tryz.prog 95 #[.agg (rcl t n D S).toArray, .int .u32 o, .int .u32 v] w fun e w' => e = .returned (.tuple #[.agg (rcl t n (upd D h (join v (lo (D h)))) S).toArray, .int .i64 0]) /\ Below w.heap.size w w' := by
 have hk : h < 8 := by omega
 have he : cErr n o = 0 := by rw [ho]; exact high_err hn
 have q0 : (o - 16384) / 8 = (h : Int) := by omega
 have q1 : ¬ (o < 16384) := by omega
 have q2 : ¬ (49144 <= o) := by omega
 have q3 : (o % 8 == 0) = false := by simp; omega
 clear ho
 have hLd := Hd (fun w => by have := rcLoad o t n D S w n8 hD t0 t1 o0 o1; rw [he] at this; exact this)
 clear he
 unfold rcl at hLd ⊢
 have h0 : RcAt ((w.alloc (.cells (rcr t n (fun i => lo (D i)) (fun i => hi (D i)) S).toArray 36)).alloc zC) w.heap.size t n (fun i => lo (D i)) (fun i => hi (D i)) S := b2_0 w _ _
 have h1 : RcAt ((w.alloc (.cells (rcr t n (fun i => lo (D i)) (fun i => hi (D i)) S).toArray 36)).alloc zC) (w.heap.size + 1) 0 0 zeS zeS zeS := b2_1 w _ _
 have hb := trA (trA (tr0 w) (.cells (rcr t n (fun i => lo (D i)) (fun i => hi (D i)) S).toArray 36)) zC
 go_enter Tryz.func95, Tryz.ntmps95
 go_wp2_with (refine loadC rfl (.tmp 3) rfl rfl (b2_0 w _ _) ?_)
 rw [zC_eq]
 generalize ((w.alloc (.cells (rcr t n (fun i => lo (D i)) (fun i => hi (D i)) S).toArray 36)).alloc zC) = W at *
 refine (hLd.out W).mono ?_
 rintro e W1 ⟨rfl, hz⟩
 have g0 := h0.below hz
 have g1 := h1.below hz
 have hbw := tr hb hz
 clear h0 h1 hb hz hLd
 have c := g0.cH h hk
 have fr := g0.free (9 + h)
 have k0 := g0.setH h v hk
 have k1 := g1.other w.heap.size (9 + h) (.int .u32 v) (by omega)
 have hb2 := hbw.setCell (p := ⟨w.heap.size, 9 + h, none⟩) (Nat.le_refl _) (.int .u32 v)
 have K0 := Hd k0
 have K1 := Hd k1
 clear g0 g1 k0 k1
 go_wp2_with (first | (refine loadC rfl (.tmp 3) rfl rfl K0.out ?_) | (refine storeC rfl (.tmp 6) (.tmp 47) rfl rfl rfl K1.out (by rw [List.size_toArray, rcr_len]) ?_))
 refine bodyPost_ret (v := .tuple #[.agg (rcr t n (fun i => lo (D i)) (upd (fun i => hi (D i)) h v) S).toArray, .int .i64 0]) (resC2 Tryz.results95 _ _ _ rfl rfl (RcAt.row K1.out)) rfl ⟨?_, below_setRow hb2 _ (by omega)⟩
 rw [show rcr t n (fun i => lo (D i)) (upd (fun i => hi (D i)) h v) S = rcl t n (upd D h (join v (lo (D h)))) S from by unfold rcl; rw [upd_map hi, upd_keep lo D h _ (lo_join (lo_nonneg _) (lo_lt _)), hi_join (lo_nonneg _) (lo_lt _)]]
 rfl
theorem rcStore (o v t : Int) (n : Nat) (D S : Nat -> Int) (w : World) (n8 : n <= 8) (hD : okD D) (t0 : 0 <= t) (t1 : t < 18446744073709551616) (o0 : 0 <= o) (o1 : o < 4294967296) (v0 : 0 <= v) (v1 : v < 4294967296) :
 Calls Tryz.prog 95 #[.agg (rcl t n D S).toArray, .int .u32 o, .int .u32 v] w fun e w' => e = .returned (.tuple #[.agg (rcl t n (cPutD n D o v) (cPutS n S o v)).toArray, .int .i64 (cErrS n o)]) /\ Below w.heap.size w w' := by
 rcases at_all n o with h | h | h | ⟨h, hn, e⟩ | ⟨h, hn, e⟩ | ⟨h, hn, e⟩ | ⟨h4, h1, h2, h⟩
 . have he : cErrS n o = 11 := by rw [err_errS (by rw [odd_err h]; omega), odd_err h]
   rw [err_putD (by rw [he]; omega), err_putS (by rw [he]; omega)]
   exact rcStoreErr o v t n D S w n8 hD t0 t1 o0 o1 v0 v1 (by rw [odd_err h]; rfl) (by rw [he, odd_err h])
 . subst h; rw [lo_errS, err_putD (by rw [lo_errS]; omega), err_putS (by rw [lo_errS]; omega)]; exact rcStoreTime _ v t n D S w n8 hD t0 t1 o0 o1 v0 v1 lo_err (by omega)
 . subst h; rw [hi_errS, err_putD (by rw [hi_errS]; omega), err_putS (by rw [hi_errS]; omega)]; exact rcStoreTime _ v t n D S w n8 hD t0 t1 o0 o1 v0 v1 hi_err (by omega)
 . have := rcStoreSoft o v t h n D S w n8 hD t0 t1 o0 o1 v0 v1 hn e; subst e; rw [soft_errS hn n8, soft_putD hn n8, soft_putS hn n8]; exact this
 . have := rcStoreLow o v t h n D S w n8 hD t0 t1 o0 o1 v0 v1 hn e; subst e; rw [low_errS hn n8, low_putD hn n8, low_putS hn]; exact this
 . have := rcStoreHigh o v t h n D S w n8 hD t0 t1 o0 o1 v0 v1 hn e; subst e; rw [high_errS hn n8, high_putD hn n8, high_putS hn]; exact this
 . have hr := none_err (n := n) o0 h4 h1 h2 h
   have he : cErrS n o = 10 := by rw [err_errS (by rw [hr]; omega), hr]
   rw [err_putD (by rw [he]; omega), err_putS (by rw [he]; omega)]
   exact rcStoreErr o v t n D S w n8 hD t0 t1 o0 o1 v0 v1 (by rw [hr]; rfl) (by rw [he, hr])
end Go.Proofs.YtcgmnjajodegmaaGreat.B
