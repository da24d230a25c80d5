/- The document's own answers of layer 5: Store. -/
import Derived.Test.YtfkkimbdjobpmaaCRef3
namespace Go.Proofs.Ytfkkimbdjobpmaa.B
set_option linter.unusedVariables false
set_option linter.unusedSimpArgs false
open Go.ChangeShapes Go.WideShapes Go.RowKit Go.Sort
theorem upd_map (f : Int → Int) (D : Nat → Int) (h : Nat) (v : Int) : (fun i => f (upd D h v i)) = upd (fun i => f (D i)) h (f v) := by
  funext i; unfold upd; split <;> rfl
theorem upd_keep (f : Int → Int) (D : Nat → Int) (h : Nat) (v : Int) (e : f v = f (D h)) : (fun i => f (upd D h v i)) = fun i => f (D i) := by
  rw [upd_map, e]; exact upd_same (fun i => f (D i)) h
theorem rcStoreErr (o v t : Int) (n : Nat) (D S : Nat → Int) (w : World) (n8 : n ≤ 8) (hD : okD D) (t0 : 0 ≤ t) (t1 : t < 18446744073709551616) (o0 : 0 ≤ o) (o1 : o < 4294967296) (v0 : 0 ≤ v) (v1 : v < 4294967296) (he : (cErr n o != 0) = true) (hs : cErrS n o = cErr n o) :
    Calls Try.prog 13 #[.agg (rcl t n D S).toArray, .int .u32 o, .int .u32 v] w fun e w' => e = .returned (.tuple #[.agg (rcl t n D S).toArray, .int .i64 (cErrS n o)]) ∧ Below w.heap.size w w' := by
  rw [hs]
  obtain ⟨E, hE⟩ : ∃ E, cErr n o = E := ⟨_, rfl⟩
  rw [hE] at he ⊢
  have hLd := Lib.hid (fun w => by have := rcLoad o t n D S w n8 hD t0 t1 o0 o1; rw [hE] at this; exact this)
  have he2 : (E == 0) = false := by simpa using he
  clear hE hs
  unfold rcl at hLd ⊢
  have h0 : RcAt ((w.alloc (.cells (rcr t n (fun i => lo (D i)) (fun i => hi (D i)) S).toArray 32)).alloc zC) w.heap.size t n (fun i => lo (D i)) (fun i => hi (D i)) S := b2_0 w _ _
  have h1 : RcAt ((w.alloc (.cells (rcr t n (fun i => lo (D i)) (fun i => hi (D i)) S).toArray 32)).alloc zC) (w.heap.size + 1) 0 0 zeS zeS zeS := b2_1 w _ _
  have hb := trA (trA (tr0 w) (.cells (rcr t n (fun i => lo (D i)) (fun i => hi (D i)) S).toArray 32)) zC
  go_enter Try.func13, Try.ntmps13
  go_wp2_with (refine loadC rfl (.tmp 3) rfl rfl (b2_0 w _ _) ?_)
  rw [zC_eq]
  generalize ((w.alloc (.cells (rcr t n (fun i => lo (D i)) (fun i => hi (D i)) S).toArray 32)).alloc zC) = W at *
  refine (hLd.out W).mono ?_
  rintro e W1 ⟨rfl, hz⟩
  have g0 := h0.below hz
  have g1 := h1.below hz
  have hbw := tr hb hz
  clear h0 h1 hb hz hLd
  go_wp2_with (first | (refine loadC rfl (.tmp 3) rfl rfl g0 ?_) | (refine storeC rfl (.tmp 6) (.tmp 19) rfl rfl rfl g1 (by rw [List.size_toArray, rcr_len]) ?_))
  exact bodyPost_ret (v := .tuple #[.agg (rcr t n (fun i => lo (D i)) (fun i => hi (D i)) S).toArray, .int .i64 E]) (resC2 Try.results13 _ _ _ rfl rfl (RcAt.row g1)) rfl ⟨rfl, below_setRow hbw _ (by omega)⟩
theorem rcStoreTime (o v t : Int) (n : Nat) (D S : Nat → Int) (w : World) (n8 : n ≤ 8) (hD : okD D) (t0 : 0 ≤ t) (t1 : t < 18446744073709551616) (o0 : 0 ≤ o) (o1 : o < 4294967296) (v0 : 0 ≤ v) (v1 : v < 4294967296) (he : cErr n o = 0) (hs : 49144 ≤ o) :
    Calls Try.prog 13 #[.agg (rcl t n D S).toArray, .int .u32 o, .int .u32 v] w fun e w' => e = .returned (.tuple #[.agg (rcl t n D S).toArray, .int .i64 12]) ∧ Below w.heap.size w w' := by
  have hLd := Lib.hid (fun w => by have := rcLoad o t n D S w n8 hD t0 t1 o0 o1; rw [he] at this; exact this)
  clear he
  unfold rcl at hLd ⊢
  have h0 : RcAt ((w.alloc (.cells (rcr t n (fun i => lo (D i)) (fun i => hi (D i)) S).toArray 32)).alloc zC) w.heap.size t n (fun i => lo (D i)) (fun i => hi (D i)) S := b2_0 w _ _
  have h1 : RcAt ((w.alloc (.cells (rcr t n (fun i => lo (D i)) (fun i => hi (D i)) S).toArray 32)).alloc zC) (w.heap.size + 1) 0 0 zeS zeS zeS := b2_1 w _ _
  have hb := trA (trA (tr0 w) (.cells (rcr t n (fun i => lo (D i)) (fun i => hi (D i)) S).toArray 32)) zC
  go_enter Try.func13, Try.ntmps13
  go_wp2_with (refine loadC rfl (.tmp 3) rfl rfl (b2_0 w _ _) ?_)
  rw [zC_eq]
  generalize ((w.alloc (.cells (rcr t n (fun i => lo (D i)) (fun i => hi (D i)) S).toArray 32)).alloc zC) = W at *
  refine (hLd.out W).mono ?_
  rintro e W1 ⟨rfl, hz⟩
  have g0 := h0.below hz
  have g1 := h1.below hz
  have hbw := tr hb hz
  clear h0 h1 hb hz hLd
  go_wp2_with (first | (refine loadC rfl (.tmp 3) rfl rfl g0 ?_) | (refine storeC rfl (.tmp 6) (.tmp 23) rfl rfl rfl g1 (by rw [List.size_toArray, rcr_len]) ?_))
  exact bodyPost_ret (v := .tuple #[.agg (rcr t n (fun i => lo (D i)) (fun i => hi (D i)) S).toArray, .int .i64 12]) (resC2 Try.results13 _ _ _ rfl rfl (RcAt.row g1)) rfl ⟨rfl, below_setRow hbw _ (by omega)⟩
theorem rcStoreSoft (o v t : Int) (h n : Nat) (D S : Nat → Int) (w : World) (n8 : n ≤ 8) (hD : okD D) (t0 : 0 ≤ t) (t1 : t < 18446744073709551616) (o0 : 0 ≤ o) (o1 : o < 4294967296) (v0 : 0 ≤ v) (v1 : v < 4294967296) (hn : h < n) (ho : o = 4 * (h : Int)) :
    Calls Try.prog 13 #[.agg (rcl t n D S).toArray, .int .u32 o, .int .u32 v] w fun e w' => e = .returned (.tuple #[.agg (rcl t n D (upd S h (v % 2))).toArray, .int .i64 0]) ∧ Below w.heap.size w w' := by
  have hk : h < 8 := by omega
  have he : cErr n o = 0 := by rw [ho]; exact soft_err hn
  have q0 : o / 4 = (h : Int) := by omega
  have q1 : o < 16384 := by omega
  have q2 : ¬ (49144 ≤ o) := by omega
  clear ho
  have hLd := Lib.hid (fun w => by have := rcLoad o t n D S w n8 hD t0 t1 o0 o1; rw [he] at this; exact this)
  clear he
  unfold rcl at hLd ⊢
  have h0 : RcAt ((w.alloc (.cells (rcr t n (fun i => lo (D i)) (fun i => hi (D i)) S).toArray 32)).alloc zC) w.heap.size t n (fun i => lo (D i)) (fun i => hi (D i)) S := b2_0 w _ _
  have h1 : RcAt ((w.alloc (.cells (rcr t n (fun i => lo (D i)) (fun i => hi (D i)) S).toArray 32)).alloc zC) (w.heap.size + 1) 0 0 zeS zeS zeS := b2_1 w _ _
  have hb := trA (trA (tr0 w) (.cells (rcr t n (fun i => lo (D i)) (fun i => hi (D i)) S).toArray 32)) zC
  go_enter Try.func13, Try.ntmps13
  go_wp2_with (refine loadC rfl (.tmp 3) rfl rfl (b2_0 w _ _) ?_)
  rw [zC_eq]
  generalize ((w.alloc (.cells (rcr t n (fun i => lo (D i)) (fun i => hi (D i)) S).toArray 32)).alloc zC) = W at *
  refine (hLd.out W).mono ?_
  rintro e W1 ⟨rfl, hz⟩
  have g0 := h0.below hz
  have g1 := h1.below hz
  have hbw := tr hb hz
  clear h0 h1 hb hz hLd
  have c := g0.cS h hk
  have fr := g0.free (17 + h)
  have k0 := g0.setS h (v % 2) hk
  have k1 := g1.other w.heap.size (17 + h) (.int .u32 (v % 2)) (by omega)
  have hb2 := hbw.setCell (p := ⟨w.heap.size, 17 + h, none⟩) (Nat.le_refl _) (.int .u32 (v % 2))
  have K0 := Lib.hid k0
  have K1 := Lib.hid k1
  clear g0 g1 k0 k1
  go_wp2_with (first | (refine loadC rfl (.tmp 3) rfl rfl K0.out ?_) | (refine storeC rfl (.tmp 6) (.tmp 32) rfl rfl rfl K1.out (by rw [List.size_toArray, rcr_len]) ?_))
  refine bodyPost_ret (v := .tuple #[.agg (rcr t n (fun i => lo (D i)) (fun i => hi (D i)) (upd S h (v % 2))).toArray, .int .i64 0]) (resC2 Try.results13 _ _ _ rfl rfl (RcAt.row K1.out)) rfl ⟨?_, below_setRow hb2 _ (by omega)⟩
  rw [show rcr t n (fun i => lo (D i)) (fun i => hi (D i)) (upd S h (v % 2)) = rcl t n D (upd S h (v % 2)) from rfl]
theorem rcStoreLow (o v t : Int) (h n : Nat) (D S : Nat → Int) (w : World) (n8 : n ≤ 8) (hD : okD D) (t0 : 0 ≤ t) (t1 : t < 18446744073709551616) (o0 : 0 ≤ o) (o1 : o < 4294967296) (v0 : 0 ≤ v) (v1 : v < 4294967296) (hn : h < n) (ho : o = 16384 + 8 * (h : Int)) :
    Calls Try.prog 13 #[.agg (rcl t n D S).toArray, .int .u32 o, .int .u32 v] w fun e w' => e = .returned (.tuple #[.agg (rcl t n (upd D h (join (hi (D h)) v)) S).toArray, .int .i64 0]) ∧ Below w.heap.size w w' := by
  have hk : h < 8 := by omega
  have he : cErr n o = 0 := by rw [ho]; exact low_err hn
  have q0 : (o - 16384) / 8 = (h : Int) := by omega
  have q1 : ¬ (o < 16384) := by omega
  have q2 : ¬ (49144 ≤ o) := by omega
  have q3 : (o % 8 == 0) = true := by simp; omega
  clear ho
  have hLd := Lib.hid (fun w => by have := rcLoad o t n D S w n8 hD t0 t1 o0 o1; rw [he] at this; exact this)
  clear he
  unfold rcl at hLd ⊢
  have h0 : RcAt ((w.alloc (.cells (rcr t n (fun i => lo (D i)) (fun i => hi (D i)) S).toArray 32)).alloc zC) w.heap.size t n (fun i => lo (D i)) (fun i => hi (D i)) S := b2_0 w _ _
  have h1 : RcAt ((w.alloc (.cells (rcr t n (fun i => lo (D i)) (fun i => hi (D i)) S).toArray 32)).alloc zC) (w.heap.size + 1) 0 0 zeS zeS zeS := b2_1 w _ _
  have hb := trA (trA (tr0 w) (.cells (rcr t n (fun i => lo (D i)) (fun i => hi (D i)) S).toArray 32)) zC
  go_enter Try.func13, Try.ntmps13
  go_wp2_with (refine loadC rfl (.tmp 3) rfl rfl (b2_0 w _ _) ?_)
  rw [zC_eq]
  generalize ((w.alloc (.cells (rcr t n (fun i => lo (D i)) (fun i => hi (D i)) S).toArray 32)).alloc zC) = W at *
  refine (hLd.out W).mono ?_
  rintro e W1 ⟨rfl, hz⟩
  have g0 := h0.below hz
  have g1 := h1.below hz
  have hbw := tr hb hz
  clear h0 h1 hb hz hLd
  have c := g0.cL h hk
  have fr := g0.free (1 + h)
  have k0 := g0.setL h v hk
  have k1 := g1.other w.heap.size (1 + h) (.int .u32 v) (by omega)
  have hb2 := hbw.setCell (p := ⟨w.heap.size, 1 + h, none⟩) (Nat.le_refl _) (.int .u32 v)
  have K0 := Lib.hid k0
  have K1 := Lib.hid k1
  clear g0 g1 k0 k1
  go_wp2_with (first | (refine loadC rfl (.tmp 3) rfl rfl K0.out ?_) | (refine storeC rfl (.tmp 6) (.tmp 47) rfl rfl rfl K1.out (by rw [List.size_toArray, rcr_len]) ?_))
  refine bodyPost_ret (v := .tuple #[.agg (rcr t n (upd (fun i => lo (D i)) h v) (fun i => hi (D i)) S).toArray, .int .i64 0]) (resC2 Try.results13 _ _ _ rfl rfl (RcAt.row K1.out)) rfl ⟨?_, below_setRow hb2 _ (by omega)⟩
  rw [show rcr t n (upd (fun i => lo (D i)) h v) (fun i => hi (D i)) S = rcl t n (upd D h (join (hi (D h)) v)) S from by unfold rcl; rw [upd_map lo, upd_keep hi D h _ (hi_join v0 v1), lo_join v0 v1]]
  rfl
theorem rcStoreHigh (o v t : Int) (h n : Nat) (D S : Nat → Int) (w : World) (n8 : n ≤ 8) (hD : okD D) (t0 : 0 ≤ t) (t1 : t < 18446744073709551616) (o0 : 0 ≤ o) (o1 : o < 4294967296) (v0 : 0 ≤ v) (v1 : v < 4294967296) (hn : h < n) (ho : o = 16384 + 8 * (h : Int) + 4) :
    Calls Try.prog 13 #[.agg (rcl t n D S).toArray, .int .u32 o, .int .u32 v] w fun e w' => e = .returned (.tuple #[.agg (rcl t n (upd D h (join v (lo (D h)))) S).toArray, .int .i64 0]) ∧ Below w.heap.size w w' := by
  have hk : h < 8 := by omega
  have he : cErr n o = 0 := by rw [ho]; exact high_err hn
  have q0 : (o - 16384) / 8 = (h : Int) := by omega
  have q1 : ¬ (o < 16384) := by omega
  have q2 : ¬ (49144 ≤ o) := by omega
  have q3 : (o % 8 == 0) = false := by simp; omega
  clear ho
  have hLd := Lib.hid (fun w => by have := rcLoad o t n D S w n8 hD t0 t1 o0 o1; rw [he] at this; exact this)
  clear he
  unfold rcl at hLd ⊢
  have h0 : RcAt ((w.alloc (.cells (rcr t n (fun i => lo (D i)) (fun i => hi (D i)) S).toArray 32)).alloc zC) w.heap.size t n (fun i => lo (D i)) (fun i => hi (D i)) S := b2_0 w _ _
  have h1 : RcAt ((w.alloc (.cells (rcr t n (fun i => lo (D i)) (fun i => hi (D i)) S).toArray 32)).alloc zC) (w.heap.size + 1) 0 0 zeS zeS zeS := b2_1 w _ _
  have hb := trA (trA (tr0 w) (.cells (rcr t n (fun i => lo (D i)) (fun i => hi (D i)) S).toArray 32)) zC
  go_enter Try.func13, Try.ntmps13
  go_wp2_with (refine loadC rfl (.tmp 3) rfl rfl (b2_0 w _ _) ?_)
  rw [zC_eq]
  generalize ((w.alloc (.cells (rcr t n (fun i => lo (D i)) (fun i => hi (D i)) S).toArray 32)).alloc zC) = W at *
  refine (hLd.out W).mono ?_
  rintro e W1 ⟨rfl, hz⟩
  have g0 := h0.below hz
  have g1 := h1.below hz
  have hbw := tr hb hz
  clear h0 h1 hb hz hLd
  have c := g0.cH h hk
  have fr := g0.free (9 + h)
  have k0 := g0.setH h v hk
  have k1 := g1.other w.heap.size (9 + h) (.int .u32 v) (by omega)
  have hb2 := hbw.setCell (p := ⟨w.heap.size, 9 + h, none⟩) (Nat.le_refl _) (.int .u32 v)
  have K0 := Lib.hid k0
  have K1 := Lib.hid k1
  clear g0 g1 k0 k1
  go_wp2_with (first | (refine loadC rfl (.tmp 3) rfl rfl K0.out ?_) | (refine storeC rfl (.tmp 6) (.tmp 47) rfl rfl rfl K1.out (by rw [List.size_toArray, rcr_len]) ?_))
  refine bodyPost_ret (v := .tuple #[.agg (rcr t n (fun i => lo (D i)) (upd (fun i => hi (D i)) h v) S).toArray, .int .i64 0]) (resC2 Try.results13 _ _ _ rfl rfl (RcAt.row K1.out)) rfl ⟨?_, below_setRow hb2 _ (by omega)⟩
  rw [show rcr t n (fun i => lo (D i)) (upd (fun i => hi (D i)) h v) S = rcl t n (upd D h (join v (lo (D h)))) S from by unfold rcl; rw [upd_map hi, upd_keep lo D h _ (lo_join (lo_nonneg _) (lo_lt _)), hi_join (lo_nonneg _) (lo_lt _)]]
  rfl
theorem rcStore (o v t : Int) (n : Nat) (D S : Nat → Int) (w : World) (n8 : n ≤ 8) (hD : okD D) (t0 : 0 ≤ t) (t1 : t < 18446744073709551616) (o0 : 0 ≤ o) (o1 : o < 4294967296) (v0 : 0 ≤ v) (v1 : v < 4294967296) :
    Calls Try.prog 13 #[.agg (rcl t n D S).toArray, .int .u32 o, .int .u32 v] w fun e w' => e = .returned (.tuple #[.agg (rcl t n (cPutD n D o v) (cPutS n S o v)).toArray, .int .i64 (cErrS n o)]) ∧ Below w.heap.size w w' := by
  rcases at_all n o with h | h | h | ⟨h, hn, e⟩ | ⟨h, hn, e⟩ | ⟨h, hn, e⟩ | ⟨h4, h1, h2, h⟩
  · have he : cErrS n o = 11 := by rw [err_errS (by rw [odd_err h]; omega), odd_err h]
    rw [err_putD (by rw [he]; omega), err_putS (by rw [he]; omega)]
    exact rcStoreErr o v t n D S w n8 hD t0 t1 o0 o1 v0 v1 (by rw [odd_err h]; rfl) (by rw [he, odd_err h])
  · subst h; rw [lo_errS, err_putD (by rw [lo_errS]; omega), err_putS (by rw [lo_errS]; omega)]; exact rcStoreTime _ v t n D S w n8 hD t0 t1 o0 o1 v0 v1 lo_err (by omega)
  · subst h; rw [hi_errS, err_putD (by rw [hi_errS]; omega), err_putS (by rw [hi_errS]; omega)]; exact rcStoreTime _ v t n D S w n8 hD t0 t1 o0 o1 v0 v1 hi_err (by omega)
  · have := rcStoreSoft o v t h n D S w n8 hD t0 t1 o0 o1 v0 v1 hn e; subst e; rw [soft_errS hn n8, soft_putD hn n8, soft_putS hn n8]; exact this
  · have := rcStoreLow o v t h n D S w n8 hD t0 t1 o0 o1 v0 v1 hn e; subst e; rw [low_errS hn n8, low_putD hn n8, low_putS hn]; exact this
  · have := rcStoreHigh o v t h n D S w n8 hD t0 t1 o0 o1 v0 v1 hn e; subst e; rw [high_errS hn n8, high_putD hn n8, high_putS hn]; exact this
  · have hr := none_err (n := n) o0 h4 h1 h2 h
    have he : cErrS n o = 10 := by rw [err_errS (by rw [hr]; omega), hr]
    rw [err_putD (by rw [he]; omega), err_putS (by rw [he]; omega)]
    exact rcStoreErr o v t n D S w n8 hD t0 t1 o0 o1 v0 v1 (by rw [hr]; rfl) (by rw [he, hr])
end Go.Proofs.Ytfkkimbdjobpmaa.B
