/- A part of the proof of a law of layer 12: bc. -/
import Derived.Test.YtaohacadochldaaGreatZCbb
set_option linter.unusedVariables false
set_option linter.unusedSimpArgs false
set_option maxHeartbeats 12800000
set_option maxRecDepth 100000
namespace Go.Proofs.YtaohacadochldaaGreat.B
open Go.Proofs.Tryz
open Go.ChangeShapes Go.WideShapes Go.RowKit Go.Sort
theorem aAc (f : Int -> Int) (D : Nat -> Int) (h : Nat) (v : Int) : (fun i => f (upd D h v i)) = upd (fun i => f (D i)) h (f v) := by
 funext i; unfold upd; split <;> rfl
theorem aBn (f : Int -> Int) (D : Nat -> Int) (h : Nat) (v : Int) (e : f v = f (D h)) : (fun i => f (upd D h v i)) = fun i => f (D i) := by
 rw [aAc, e]; exact aHs (fun i => f (D i)) h
theorem uZ (o v t : Int) (n : Nat) (D S : Nat -> Int) (w : World) (n8 : n <= 8) (hD : okD D) (t0 : 0 <= t) (t1 : t < 18446744073709551616) (o0 : 0 <= o) (o1 : o < 4294967296) (v0 : 0 <= v) (v1 : v < 4294967296) (he : (gF n o != 0) = true) (hs : eP n o = gF n o) :
 Calls prog 122 #[.agg (gC t n D S).toArray, .int .u32 o, .int .u32 v] w fun e w' => e = .returned (.tuple #[.agg (gC t n D S).toArray, .int .i64 (eP n o)]) /\ Below w.heap.size w w' := by
 rw [hs]
 obtain ⟨E, hE⟩ : ∃ E, gF n o = E := ⟨_, rfl⟩
 rw [hE] at he ⊢
 have hLd := Hd (fun w => by have := rZ o t n D S w n8 hD t0 t1 o0 o1; rw [hE] at this; exact this)
 have he2 : (E == 0) = false := by simpa using he
 clear hE hs
 unfold gC at hLd ⊢
 have h0 : bK ((w.alloc (.cells (dV t n (fun i => lo (D i)) (fun i => hi (D i)) S).toArray 29)).alloc zC) w.heap.size t n (fun i => lo (D i)) (fun i => hi (D i)) S := bM w _ _
 have h1 : bK ((w.alloc (.cells (dV t n (fun i => lo (D i)) (fun i => hi (D i)) S).toArray 29)).alloc zC) (w.heap.size + 1) 0 0 jB jB jB := bU w _ _
 have hb := aE (aE (aH w) (.cells (dV t n (fun i => lo (D i)) (fun i => hi (D i)) S).toArray 29)) zC
 go_enter func122, ntmps122
 go_wp2_with (refine mG rfl (.tmp 3) rfl rfl (bM w _ _) ?_)
 rw [sP]
 generalize ((w.alloc (.cells (dV t n (fun i => lo (D i)) (fun i => hi (D i)) S).toArray 29)).alloc zC) = W at *
 refine (hLd.out W).mono ?_
 rintro e W1 ⟨rfl, hz⟩
 have g0 := h0.below hz
 have g1 := h1.below hz
 have hbw := tr hb hz
 clear h0 h1 hb hz hLd
 go_wp2_with (first | (refine mG rfl (.tmp 3) rfl rfl g0 ?_) | (refine nF rfl (.tmp 6) (.tmp 19) rfl rfl rfl g1 (by rw [List.size_toArray, eJ]) ?_))
 exact bodyPost_ret (v := .tuple #[.agg (dV t n (fun i => lo (D i)) (fun i => hi (D i)) S).toArray, .int .i64 E]) (aBW results122 _ _ _ rfl rfl (bK.row g1)) rfl ⟨rfl, aB hbw _ (by omega)⟩
theorem sN (o v t : Int) (n : Nat) (D S : Nat -> Int) (w : World) (n8 : n <= 8) (hD : okD D) (t0 : 0 <= t) (t1 : t < 18446744073709551616) (o0 : 0 <= o) (o1 : o < 4294967296) (v0 : 0 <= v) (v1 : v < 4294967296) (he : gF n o = 0) (hs : 49144 <= o) :
 Calls prog 122 #[.agg (gC t n D S).toArray, .int .u32 o, .int .u32 v] w fun e w' => e = .returned (.tuple #[.agg (gC t n D S).toArray, .int .i64 12]) /\ Below w.heap.size w w' := by
 have hLd := Hd (fun w => by have := rZ o t n D S w n8 hD t0 t1 o0 o1; rw [he] at this; exact this)
 clear he
 unfold gC at hLd ⊢
 have h0 : bK ((w.alloc (.cells (dV t n (fun i => lo (D i)) (fun i => hi (D i)) S).toArray 29)).alloc zC) w.heap.size t n (fun i => lo (D i)) (fun i => hi (D i)) S := bM w _ _
 have h1 : bK ((w.alloc (.cells (dV t n (fun i => lo (D i)) (fun i => hi (D i)) S).toArray 29)).alloc zC) (w.heap.size + 1) 0 0 jB jB jB := bU w _ _
 have hb := aE (aE (aH w) (.cells (dV t n (fun i => lo (D i)) (fun i => hi (D i)) S).toArray 29)) zC
 go_enter func122, ntmps122
 go_wp2_with (refine mG rfl (.tmp 3) rfl rfl (bM w _ _) ?_)
 rw [sP]
 generalize ((w.alloc (.cells (dV t n (fun i => lo (D i)) (fun i => hi (D i)) S).toArray 29)).alloc zC) = W at *
 refine (hLd.out W).mono ?_
 rintro e W1 ⟨rfl, hz⟩
 have g0 := h0.below hz
 have g1 := h1.below hz
 have hbw := tr hb hz
 clear h0 h1 hb hz hLd
 go_wp2_with (first | (refine mG rfl (.tmp 3) rfl rfl g0 ?_) | (refine nF rfl (.tmp 6) (.tmp 23) rfl rfl rfl g1 (by rw [List.size_toArray, eJ]) ?_))
 exact bodyPost_ret (v := .tuple #[.agg (dV t n (fun i => lo (D i)) (fun i => hi (D i)) S).toArray, .int .i64 12]) (aBW results122 _ _ _ rfl rfl (bK.row g1)) rfl ⟨rfl, aB hbw _ (by omega)⟩
theorem aBV (o v t : Int) (h n : Nat) (D S : Nat -> Int) (w : World) (n8 : n <= 8) (hD : okD D) (t0 : 0 <= t) (t1 : t < 18446744073709551616) (o0 : 0 <= o) (o1 : o < 4294967296) (v0 : 0 <= v) (v1 : v < 4294967296) (hn : h < n) (ho : o = 4 * (h : Int)) :
 Calls prog 122 #[.agg (gC t n D S).toArray, .int .u32 o, .int .u32 v] w fun e w' => e = .returned (.tuple #[.agg (gC t n D (upd S h (v % 2))).toArray, .int .i64 0]) /\ Below w.heap.size w w' := by
 have hk : h < 8 := by omega
 have he : gF n o = 0 := by rw [ho]; exact nC hn
 have q0 : o / 4 = (h : Int) := by omega
 have q1 : o < 16384 := by omega
 have q2 : ¬ (49144 <= o) := by omega
 clear ho
 have hLd := Hd (fun w => by have := rZ o t n D S w n8 hD t0 t1 o0 o1; rw [he] at this; exact this)
 clear he
 unfold gC at hLd ⊢
 have h0 : bK ((w.alloc (.cells (dV t n (fun i => lo (D i)) (fun i => hi (D i)) S).toArray 29)).alloc zC) w.heap.size t n (fun i => lo (D i)) (fun i => hi (D i)) S := bM w _ _
 have h1 : bK ((w.alloc (.cells (dV t n (fun i => lo (D i)) (fun i => hi (D i)) S).toArray 29)).alloc zC) (w.heap.size + 1) 0 0 jB jB jB := bU w _ _
 have hb := aE (aE (aH w) (.cells (dV t n (fun i => lo (D i)) (fun i => hi (D i)) S).toArray 29)) zC
 go_enter func122, ntmps122
 go_wp2_with (refine mG rfl (.tmp 3) rfl rfl (bM w _ _) ?_)
 rw [sP]
 generalize ((w.alloc (.cells (dV t n (fun i => lo (D i)) (fun i => hi (D i)) S).toArray 29)).alloc zC) = W at *
 refine (hLd.out W).mono ?_
 rintro e W1 ⟨rfl, hz⟩
 have g0 := h0.below hz
 have g1 := h1.below hz
 have hbw := tr hb hz
 clear h0 h1 hb hz hLd
 have c := g0.cS h hk
 have fr := g0.free (17 + h)
 have k0 := g0.setS h (v % 2) hk
 have k1 := g1.other w.heap.size (17 + h) (.int .u32 (v % 2)) (by omega)
 have hb2 := hbw.setCell (p := ⟨w.heap.size, 17 + h, none⟩) (Nat.le_refl _) (.int .u32 (v % 2))
 have K0 := Hd k0
 have K1 := Hd k1
 clear g0 g1 k0 k1
 go_wp2_with (first | (refine mG rfl (.tmp 3) rfl rfl K0.out ?_) | (refine nF rfl (.tmp 6) (.tmp 32) rfl rfl rfl K1.out (by rw [List.size_toArray, eJ]) ?_))
 refine bodyPost_ret (v := .tuple #[.agg (dV t n (fun i => lo (D i)) (fun i => hi (D i)) (upd S h (v % 2))).toArray, .int .i64 0]) (aBW results122 _ _ _ rfl rfl (bK.row K1.out)) rfl ⟨?_, aB hb2 _ (by omega)⟩
 rw [show dV t n (fun i => lo (D i)) (fun i => hi (D i)) (upd S h (v % 2)) = gC t n D (upd S h (v % 2)) from rfl]
theorem aC0 (o v t : Int) (h n : Nat) (D S : Nat -> Int) (w : World) (n8 : n <= 8) (hD : okD D) (t0 : 0 <= t) (t1 : t < 18446744073709551616) (o0 : 0 <= o) (o1 : o < 4294967296) (v0 : 0 <= v) (v1 : v < 4294967296) (hn : h < n) (ho : o = 16384 + 8 * (h : Int)) :
 Calls prog 122 #[.agg (gC t n D S).toArray, .int .u32 o, .int .u32 v] w fun e w' => e = .returned (.tuple #[.agg (gC t n (upd D h (cZ (hi (D h)) v)) S).toArray, .int .i64 0]) /\ Below w.heap.size w w' := by
 have hk : h < 8 := by omega
 have he : gF n o = 0 := by rw [ho]; exact pZ hn
 have q0 : (o - 16384) / 8 = (h : Int) := by omega
 have q1 : ¬ (o < 16384) := by omega
 have q2 : ¬ (49144 <= o) := by omega
 have q3 : (o % 8 == 0) = true := by simp; omega
 clear ho
 have hLd := Hd (fun w => by have := rZ o t n D S w n8 hD t0 t1 o0 o1; rw [he] at this; exact this)
 clear he
 unfold gC at hLd ⊢
 have h0 : bK ((w.alloc (.cells (dV t n (fun i => lo (D i)) (fun i => hi (D i)) S).toArray 29)).alloc zC) w.heap.size t n (fun i => lo (D i)) (fun i => hi (D i)) S := bM w _ _
 have h1 : bK ((w.alloc (.cells (dV t n (fun i => lo (D i)) (fun i => hi (D i)) S).toArray 29)).alloc zC) (w.heap.size + 1) 0 0 jB jB jB := bU w _ _
 have hb := aE (aE (aH w) (.cells (dV t n (fun i => lo (D i)) (fun i => hi (D i)) S).toArray 29)) zC
 go_enter func122, ntmps122
 go_wp2_with (refine mG rfl (.tmp 3) rfl rfl (bM w _ _) ?_)
 rw [sP]
 generalize ((w.alloc (.cells (dV t n (fun i => lo (D i)) (fun i => hi (D i)) S).toArray 29)).alloc zC) = W at *
 refine (hLd.out W).mono ?_
 rintro e W1 ⟨rfl, hz⟩
 have g0 := h0.below hz
 have g1 := h1.below hz
 have hbw := tr hb hz
 clear h0 h1 hb hz hLd
 have c := g0.cL h hk
 have fr := g0.free (1 + h)
 have k0 := g0.setL h v hk
 have k1 := g1.other w.heap.size (1 + h) (.int .u32 v) (by omega)
 have hb2 := hbw.setCell (p := ⟨w.heap.size, 1 + h, none⟩) (Nat.le_refl _) (.int .u32 v)
 have K0 := Hd k0
 have K1 := Hd k1
 clear g0 g1 k0 k1
 go_wp2_with (first | (refine mG rfl (.tmp 3) rfl rfl K0.out ?_) | (refine nF rfl (.tmp 6) (.tmp 47) rfl rfl rfl K1.out (by rw [List.size_toArray, eJ]) ?_))
 refine bodyPost_ret (v := .tuple #[.agg (dV t n (upd (fun i => lo (D i)) h v) (fun i => hi (D i)) S).toArray, .int .i64 0]) (aBW results122 _ _ _ rfl rfl (bK.row K1.out)) rfl ⟨?_, aB hb2 _ (by omega)⟩
 rw [show dV t n (upd (fun i => lo (D i)) h v) (fun i => hi (D i)) S = gC t n (upd D h (cZ (hi (D h)) v)) S from by unfold gC; rw [aAc lo, aBn hi D h _ (zP v0 v1), aAF v0 v1]]
 rfl
theorem aBU (o v t : Int) (h n : Nat) (D S : Nat -> Int) (w : World) (n8 : n <= 8) (hD : okD D) (t0 : 0 <= t) (t1 : t < 18446744073709551616) (o0 : 0 <= o) (o1 : o < 4294967296) (v0 : 0 <= v) (v1 : v < 4294967296) (hn : h < n) (ho : o = 16384 + 8 * (h : Int) + 4) :
 Calls prog 122 #[.agg (gC t n D S).toArray, .int .u32 o, .int .u32 v] w fun e w' => e = .returned (.tuple #[.agg (gC t n (upd D h (cZ v (lo (D h)))) S).toArray, .int .i64 0]) /\ Below w.heap.size w w' := by
 have hk : h < 8 := by omega
 have he : gF n o = 0 := by rw [ho]; exact mV hn
 have q0 : (o - 16384) / 8 = (h : Int) := by omega
 have q1 : ¬ (o < 16384) := by omega
 have q2 : ¬ (49144 <= o) := by omega
 have q3 : (o % 8 == 0) = false := by simp; omega
 clear ho
 have hLd := Hd (fun w => by have := rZ o t n D S w n8 hD t0 t1 o0 o1; rw [he] at this; exact this)
 clear he
 unfold gC at hLd ⊢
 have h0 : bK ((w.alloc (.cells (dV t n (fun i => lo (D i)) (fun i => hi (D i)) S).toArray 29)).alloc zC) w.heap.size t n (fun i => lo (D i)) (fun i => hi (D i)) S := bM w _ _
 have h1 : bK ((w.alloc (.cells (dV t n (fun i => lo (D i)) (fun i => hi (D i)) S).toArray 29)).alloc zC) (w.heap.size + 1) 0 0 jB jB jB := bU w _ _
 have hb := aE (aE (aH w) (.cells (dV t n (fun i => lo (D i)) (fun i => hi (D i)) S).toArray 29)) zC
 go_enter func122, ntmps122
 go_wp2_with (refine mG rfl (.tmp 3) rfl rfl (bM w _ _) ?_)
 rw [sP]
 generalize ((w.alloc (.cells (dV t n (fun i => lo (D i)) (fun i => hi (D i)) S).toArray 29)).alloc zC) = W at *
 refine (hLd.out W).mono ?_
 rintro e W1 ⟨rfl, hz⟩
 have g0 := h0.below hz
 have g1 := h1.below hz
 have hbw := tr hb hz
 clear h0 h1 hb hz hLd
 have c := g0.cH h hk
 have fr := g0.free (9 + h)
 have k0 := g0.setH h v hk
 have k1 := g1.other w.heap.size (9 + h) (.int .u32 v) (by omega)
 have hb2 := hbw.setCell (p := ⟨w.heap.size, 9 + h, none⟩) (Nat.le_refl _) (.int .u32 v)
 have K0 := Hd k0
 have K1 := Hd k1
 clear g0 g1 k0 k1
 go_wp2_with (first | (refine mG rfl (.tmp 3) rfl rfl K0.out ?_) | (refine nF rfl (.tmp 6) (.tmp 47) rfl rfl rfl K1.out (by rw [List.size_toArray, eJ]) ?_))
 refine bodyPost_ret (v := .tuple #[.agg (dV t n (fun i => lo (D i)) (upd (fun i => hi (D i)) h v) S).toArray, .int .i64 0]) (aBW results122 _ _ _ rfl rfl (bK.row K1.out)) rfl ⟨?_, aB hb2 _ (by omega)⟩
 rw [show dV t n (fun i => lo (D i)) (upd (fun i => hi (D i)) h v) S = gC t n (upd D h (cZ v (lo (D h)))) S from by unfold gC; rw [aAc hi, aBn lo D h _ (aAF (dQ _) (mF _)), zP (dQ _) (mF _)]]
 rfl
theorem aI8 (o v t : Int) (n : Nat) (D S : Nat -> Int) (w : World) (n8 : n <= 8) (hD : okD D) (t0 : 0 <= t) (t1 : t < 18446744073709551616) (o0 : 0 <= o) (o1 : o < 4294967296) (v0 : 0 <= v) (v1 : v < 4294967296) :
 Calls prog 122 #[.agg (gC t n D S).toArray, .int .u32 o, .int .u32 v] w fun e w' => e = .returned (.tuple #[.agg (gC t n (eT n D o v) (eU n S o v)).toArray, .int .i64 (eP n o)]) /\ Below w.heap.size w w' := by
 rcases aB9 n o with h | h | h | ⟨h, hn, e⟩ | ⟨h, hn, e⟩ | ⟨h, hn, e⟩ | ⟨h4, h1, h2, h⟩
 . have he : eP n o = 11 := by rw [pR (by rw [jD h]; omega), jD h]
   rw [iF (by rw [he]; omega), iG (by rw [he]; omega)]
   exact uZ o v t n D S w n8 hD t0 t1 o0 o1 v0 v1 (by rw [jD h]; rfl) (by rw [he, jD h])
 . subst h; rw [oD, iF (by rw [oD]; omega), iG (by rw [oD]; omega)]; exact sN _ v t n D S w n8 hD t0 t1 o0 o1 v0 v1 uK (by omega)
 . subst h; rw [nZ, iF (by rw [nZ]; omega), iG (by rw [nZ]; omega)]; exact sN _ v t n D S w n8 hD t0 t1 o0 o1 v0 v1 uA (by omega)
 . have := aBV o v t h n D S w n8 hD t0 t1 o0 o1 v0 v1 hn e; subst e; rw [sA hn n8, yR hn n8, yS hn n8]; exact this
 . have := aC0 o v t h n D S w n8 hD t0 t1 o0 o1 v0 v1 hn e; subst e; rw [qA hn n8, uM hn n8, uN hn]; exact this
 . have := aBU o v t h n D S w n8 hD t0 t1 o0 o1 v0 v1 hn e; subst e; rw [oA hn n8, rP hn n8, rQ hn]; exact this
 . have hr := qE (n := n) o0 h4 h1 h2 h
   have he : eP n o = 10 := by rw [pR (by rw [hr]; omega), hr]
   rw [iF (by rw [he]; omega), iG (by rw [he]; omega)]
   exact uZ o v t n D S w n8 hD t0 t1 o0 o1 v0 v1 (by rw [hr]; rfl) (by rw [he, hr])
theorem wY {P : Prop} (h : P := by
 refine bodyPost_ret (aBX rfl _ _ rfl Z) rfl ⟨?_, hB2⟩
 rw [<- HR.out]
 unfold Tm.one Tm.exp; rw [if_pos rfl, if_neg (show ¬ ph < sc by omega), if_neg (show ¬ 1 < v by omega), if_neg (by simp)]
 ) : P := h
theorem aPt (t : Tm) (w : World) (h : t.ok) : Calls prog 198 #[.agg (rl t).toArray] w fun e w' => e = .returned (.agg (rl t.one).toArray) /\ Below w.heap.size w w' := by
 have hB := aE (aE (aH w) (oM t)) zM
 have X : cX ((w.alloc (oM t)).alloc zM) w.heap.size t := bM w (oM t) zM
 have Y : cX ((w.alloc (oM t)).alloc zM) (w.heap.size + 1) tz := bU w (oM t) zM
 obtain ⟨l0, l1, v0, v1, s0, s1, p0, p1⟩ := h
 obtain ⟨R, hR⟩ : ∃ R, t.one = R := ⟨_, rfl⟩
 rw [hR]
 have HR := Hd hR
 clear hR
 obtain ⟨ld, v, en, re, iq, sc, ph, st⟩ := t
 simp only at l0 l1 v0 v1 s0 s1 p0 p1
 have x2 := X.c2
 have x6 := X.c6
 have f6 := X.free 6
 simp only at x2 x6
 cases en
 . clear x6 f6
   go_enter func198, ntmps198
   go_upto_region 1 with (fail)
   rw [show Obj.cells (rl ⟨ld, v, false, re, iq, sc, ph, st⟩).toArray 220 (0, 0) = oM ⟨ld, v, false, re, iq, sc, ph, st⟩ from rfl, lJ]
   generalize ((w.alloc (oM ⟨ld, v, false, re, iq, sc, ph, st⟩)).alloc zM) = W at *
   have Z := cX.row Y ⟨ld, v, false, re, iq, sc, ph, st⟩
   have hB2 := aB hB (rl ⟨ld, v, false, re, iq, sc, ph, st⟩).toArray (g := w.heap.size + 1) (by omega)
   go_wp2_with (first | (refine eE rfl (.tmp 1) rfl rfl X ?_) | (refine fE rfl (.tmp 2) (.tmp 6) rfl rfl (t := ⟨ld, v, false, re, iq, sc, ph, st⟩) rfl Y ?_))
   refine bodyPost_ret (aBX rfl _ _ rfl Z) rfl ⟨?_, hB2⟩
   rw [<- HR.out]
   rfl
 . have q0 : ph + 1 < 4294967296 := by omega
   go_enter func198, ntmps198
   go_upto_region 1 with (fail)
   rw [show Obj.cells (rl ⟨ld, v, true, re, iq, sc, ph, st⟩).toArray 220 (0, 0) = oM ⟨ld, v, true, re, iq, sc, ph, st⟩ from rfl, lJ]
   generalize ((w.alloc (oM ⟨ld, v, true, re, iq, sc, ph, st⟩)).alloc zM) = W at *
   go_upto_region 4 with (fail)
   have X1 : cX _ _ ⟨ld, v, true, re, iq, sc, ph + 1, st⟩ := (X.s6 (ph + 1))
   have Y1 := (Y.other w.heap.size 6 (.int .u32 (ph + 1)) (by omega))
   have hB1 := (hB.setCell (p := ⟨w.heap.size, 6, none⟩) (by simp) (.int .u32 (ph + 1)))
   clear X Y hB x2 x6 f6
   have X := X1
   have Y := Y1
   have hB := hB1
   clear X1 Y1 hB1
   generalize (W.setCell ⟨w.heap.size, 6, none⟩ (.int .u32 (ph + 1))) = W2 at *
   have x5 := X.c5
   have x6 := X.c6
   simp only at x5 x6
   by_cases hp : ph < sc
   . have hle : ph + 1 <= sc := by omega
     have Z := cX.row Y ⟨ld, v, true, re, iq, sc, ph + 1, st⟩
     have hB2 := aB hB (rl ⟨ld, v, true, re, iq, sc, ph + 1, st⟩).toArray (g := w.heap.size + 1) (by omega)
     go_wp2_with (first | (refine eE rfl (.tmp 1) rfl rfl X ?_) | (refine fE rfl (.tmp 2) (.tmp 16) rfl rfl (t := ⟨ld, v, true, re, iq, sc, ph + 1, st⟩) rfl Y ?_))
     refine bodyPost_ret (aBX rfl _ _ rfl Z) rfl ⟨?_, hB2⟩
     rw [<- HR.out]
     unfold Tm.one; rw [if_pos rfl, if_pos (show ph < sc by omega)]
   . have hle : ¬ ph + 1 <= sc := by omega
     have f6 := X.free 6
     go_upto_region 7 with (fail)
     have X1 : cX _ _ ⟨ld, v, true, re, iq, sc, 0, st⟩ := (X.s6 (0))
     have Y1 := (Y.other w.heap.size 6 (.int .u32 (0)) (by omega))
     have hB1 := (hB.setCell (p := ⟨w.heap.size, 6, none⟩) (by simp) (.int .u32 (0)))
     clear X Y hB x5 x6 f6
     have X := X1
     have Y := Y1
     have hB := hB1
     clear X1 Y1 hB1
     generalize (W2.setCell ⟨w.heap.size, 6, none⟩ (.int .u32 (0))) = W3 at *
     have x1 := X.c1
     have f1 := X.free 1
     simp only at x1
     by_cases hv : 1 < v
     . skip
       go_upto_region 9 with (fail)
       have X1 : cX _ _ ⟨ld, v - 1, true, re, iq, sc, 0, st⟩ := (X.s1 (v - 1))
       have Y1 := (Y.other w.heap.size 1 (.int .u32 (v - 1)) (by omega))
       have hB1 := (hB.setCell (p := ⟨w.heap.size, 1, none⟩) (by simp) (.int .u32 (v - 1)))
       clear X Y hB x1 f1
       have X := X1
       have Y := Y1
       have hB := hB1
       clear X1 Y1 hB1
       generalize (W3.setCell ⟨w.heap.size, 1, none⟩ (.int .u32 (v - 1))) = W4 at *
       have Z := cX.row Y ⟨ld, v - 1, true, re, iq, sc, 0, st⟩
       have hB2 := aB hB (rl ⟨ld, v - 1, true, re, iq, sc, 0, st⟩).toArray (g := w.heap.size + 1) (by omega)
       go_wp2_with (first | (refine eE rfl (.tmp 1) rfl rfl X ?_) | (refine fE rfl (.tmp 2) (.tmp 25) rfl rfl (t := ⟨ld, v - 1, true, re, iq, sc, 0, st⟩) rfl Y ?_))
       refine bodyPost_ret (aBX rfl _ _ rfl Z) rfl ⟨?_, hB2⟩
       rw [<- HR.out]
       unfold Tm.one; rw [if_pos rfl, if_neg (show ¬ ph < sc by omega), if_pos (show 1 < v by omega)]
     . have x7 := X.c7
       have f7 := X.free 7
       simp only at x7
       go_upto_region 11 with (fail)
       have X1 : cX _ _ ⟨ld, v, true, re, iq, sc, 0, true⟩ := (X.s7 (true))
       have Y1 := (Y.other w.heap.size 7 (.bool true) (by omega))
       have hB1 := (hB.setCell (p := ⟨w.heap.size, 7, none⟩) (by simp) (.bool true))
       clear X Y hB x1 f1 x7 f7
       have X := X1
       have Y := Y1
       have hB := hB1
       clear X1 Y1 hB1
       generalize (W3.setCell ⟨w.heap.size, 7, none⟩ (.bool true)) = W4 at *
       have x0 := X.c0
       have x1 := X.c1
       have x2 := X.c2
       have x3 := X.c3
       have x6 := X.c6
       have f1 := X.free 1
       have f2 := X.free 2
       have f6 := X.free 6
       simp only at x0 x1 x2 x3 x6
       cases re
       . skip
         go_upto_region 15 with (fail)
         have X1 : cX _ _ ⟨ld, 0, false, false, iq, sc, 0, true⟩ := (((X.s1 (0)).s2 (false)).s6 (0))
         have Y1 := (((Y.other w.heap.size 1 (.int .u32 (0)) (by omega)).other w.heap.size 2 (.bool false) (by omega)).other w.heap.size 6 (.int .u32 (0)) (by omega))
         have hB1 := (((hB.setCell (p := ⟨w.heap.size, 1, none⟩) (by simp) (.int .u32 (0))).setCell (p := ⟨w.heap.size, 2, none⟩) (by simp) (.bool false)).setCell (p := ⟨w.heap.size, 6, none⟩) (by simp) (.int .u32 (0)))
         clear X Y hB x0 x1 x2 x3 x6 f1 f2 f6
         have X := X1
         have Y := Y1
         have hB := hB1
         clear X1 Y1 hB1
         generalize (((W4.setCell ⟨w.heap.size, 1, none⟩ (.int .u32 (0))).setCell ⟨w.heap.size, 2, none⟩ (.bool false)).setCell ⟨w.heap.size, 6, none⟩ (.int .u32 (0))) = W5 at *
         have Z := cX.row Y ⟨ld, 0, false, false, iq, sc, 0, true⟩
         have hB2 := aB hB (rl ⟨ld, 0, false, false, iq, sc, 0, true⟩).toArray (g := w.heap.size + 1) (by omega)
         go_wp2_with (first | (refine eE rfl (.tmp 1) rfl rfl X ?_) | (refine fE rfl (.tmp 2) (.tmp 41) rfl rfl (t := ⟨ld, 0, false, false, iq, sc, 0, true⟩) rfl Y ?_))
         exact wY
       . by_cases hl : ld = 0
         . subst hl
           go_upto_region 15 with (fail)
           have X1 : cX _ _ ⟨0, 0, false, true, iq, sc, 0, true⟩ := (((X.s1 (0)).s2 (false)).s6 (0))
           have Y1 := (((Y.other w.heap.size 1 (.int .u32 (0)) (by omega)).other w.heap.size 2 (.bool false) (by omega)).other w.heap.size 6 (.int .u32 (0)) (by omega))
           have hB1 := (((hB.setCell (p := ⟨w.heap.size, 1, none⟩) (by simp) (.int .u32 (0))).setCell (p := ⟨w.heap.size, 2, none⟩) (by simp) (.bool false)).setCell (p := ⟨w.heap.size, 6, none⟩) (by simp) (.int .u32 (0)))
           clear X Y hB x0 x1 x2 x3 x6 f1 f2 f6
           have X := X1
           have Y := Y1
           have hB := hB1
           clear X1 Y1 hB1
           generalize (((W4.setCell ⟨w.heap.size, 1, none⟩ (.int .u32 (0))).setCell ⟨w.heap.size, 2, none⟩ (.bool false)).setCell ⟨w.heap.size, 6, none⟩ (.int .u32 (0))) = W5 at *
           have Z := cX.row Y ⟨0, 0, false, true, iq, sc, 0, true⟩
           have hB2 := aB hB (rl ⟨0, 0, false, true, iq, sc, 0, true⟩).toArray (g := w.heap.size + 1) (by omega)
           go_wp2_with (first | (refine eE rfl (.tmp 1) rfl rfl X ?_) | (refine fE rfl (.tmp 2) (.tmp 41) rfl rfl (t := ⟨0, 0, false, true, iq, sc, 0, true⟩) rfl Y ?_))
           exact wY
         . have hl2 : (ld == 0) = false := by simpa using hl
           have hl3 : (ld != 0) = true := by simpa using hl
           go_upto_region 13 with (fail)
           have X1 : cX _ _ ⟨ld, ld, true, true, iq, sc, 0, true⟩ := (X.s1 (ld))
           have Y1 := (Y.other w.heap.size 1 (.int .u32 (ld)) (by omega))
           have hB1 := (hB.setCell (p := ⟨w.heap.size, 1, none⟩) (by simp) (.int .u32 (ld)))
           clear X Y hB x0 x1 x2 x3 x6 f1 f2 f6
           have X := X1
           have Y := Y1
           have hB := hB1
           clear X1 Y1 hB1
           generalize (W4.setCell ⟨w.heap.size, 1, none⟩ (.int .u32 (ld))) = W5 at *
           have Z := cX.row Y ⟨ld, ld, true, true, iq, sc, 0, true⟩
           have hB2 := aB hB (rl ⟨ld, ld, true, true, iq, sc, 0, true⟩).toArray (g := w.heap.size + 1) (by omega)
           go_wp2_with (first | (refine eE rfl (.tmp 1) rfl rfl X ?_) | (refine fE rfl (.tmp 2) (.tmp 37) rfl rfl (t := ⟨ld, ld, true, true, iq, sc, 0, true⟩) rfl Y ?_))
           refine bodyPost_ret (aBX rfl _ _ rfl Z) rfl ⟨?_, hB2⟩
           rw [<- HR.out]
           unfold Tm.one Tm.exp; rw [if_pos rfl, if_neg (show ¬ ph < sc by omega), if_neg (show ¬ 1 < v by omega), if_pos (by simp [hl])]
theorem nM {P : Prop} (h : P := by
 go_enter func196, ntmps196
 go_upto_region 1 with (fail)
 rw [show Obj.cells (rl t).toArray 220 (0, 0) = oM t from rfl]
 generalize (w.alloc (oM t)) = W at *
 go_wp2_with fail
 go_ret2
 exact ⟨rfl, hB⟩
 ) : P := h
theorem aGh (t : Tm) (o : Int) (w : World) (h : t.ok) (o0 : 0 <= o) (o1 : o < 4294967296) :
 Calls prog 196 #[.agg (rl t).toArray, .int .u32 o] w fun e w' => e = .returned (.tuple #[.int .u32 (t.val o), .int .i64 (fR o)]) /\ Below w.heap.size w w' := by
 have hB := aE (aH w) (oM t)
 have X : cX (w.alloc (oM t)) w.heap.size t := aD w (oM t)
 obtain ⟨l0, l1, v0, v1, s0, s1, p0, p1⟩ := h
 have hw := X.lt
 have x0 := X.c0
 have x1 := X.c1
 have x2 := X.c2
 have x3 := X.c3
 have x4 := X.c4
 have x5 := X.c5
 have x7 := X.c7
 by_cases h4 : o % 4 = 0
 . have n4 : (o % 4 != 0) = false := by simpa using h4
   by_cases h16 : o < 16
   . rcases (show o = 0 \/ o = 4 \/ o = 8 \/ o = 12 by omega) with rfl | rfl | rfl | rfl
     . exact nM
     . exact nM
     . have hW := Hd uY
       have hv : t.val 8 = (if t.en = true then 1 else 0) + (if t.re = true then 2 else 0) + (if t.iq = true then 4 else 0) + 256 * t.sc := by
        show mK t.en t.re t.iq t.sc = _
        unfold mK tk
        cases t.en <;> cases t.re <;> cases t.iq <;> simp
       have hc := oZ t.en t.re t.iq t.sc s0 s1
       obtain ⟨V, hV⟩ : ∃ V, t.val 8 = V := ⟨_, rfl⟩
       rw [hV] at hv ⊢
       obtain ⟨a, ha⟩ : ∃ a : Int, (if t.en = true then (1 : Int) else 0) = a := ⟨_, rfl⟩
       obtain ⟨b, hb⟩ : ∃ b : Int, (if t.re = true then (2 : Int) else 0) = b := ⟨_, rfl⟩
       obtain ⟨c, hcc⟩ : ∃ c : Int, (if t.iq = true then (4 : Int) else 0) = c := ⟨_, rfl⟩
       have ha2 : 0 <= a /\ a <= 1 := by rw [<- ha]; split <;> omega
       have hb2 : 0 <= b /\ b <= 2 := by rw [<- hb]; split <;> omega
       have hc2 : 0 <= c /\ c <= 4 := by rw [<- hcc]; split <;> omega
       rw [ha, hb, hcc] at hv
       have HV := Hd hv
       have W1 := Hd (fun w => by have := uY t.en 1 w; rw [ha] at this; exact this)
       have W2 := Hd (fun w => by have := uY t.re 2 w; rw [hb] at this; exact this)
       have W3 := Hd (fun w => by have := uY t.iq 4 w; rw [hcc] at this; exact this)
       clear hv ha hb hcc hV hW hc
       go_enter func196, ntmps196
       go_upto_region 1 with (fail)
       rw [show Obj.cells (rl t).toArray 220 (0, 0) = oM t from rfl]
       generalize (w.alloc (oM t)) = W at *
       go_wp2_with fail
       have hg := bC
       refine wp_region_quiet_below (by kernel_rfl) (by kernel_rfl) ?_
       repeat (go_big_quiet_step (first
        | (go_at_call 225; exact Calls.regrown_of ((W1.out _).mono fun e w' h => ⟨h.1, h.2 ▸ aH _⟩))
        | (go_at_call 225; exact Calls.regrown_of ((W2.out _).mono fun e w' h => ⟨h.1, h.2 ▸ aH _⟩))
        | (go_at_call 225; exact Calls.regrown_of ((W3.out _).mono fun e w' h => ⟨h.1, h.2 ▸ aH _⟩))))
       refine wpQuiet_nil ?_
       intro _ hw'
       obtain ⟨⟨dq, osq⟩, hw''⟩ := hw'
       subst hw''
       go_wp2_with fail
       go_ret2
       exact ⟨by rw [HV.out]; rfl, trG hB _ _⟩
     . have hv : (if t.st = true then (1 : Int) else 0) = t.val 12 := by
        show _ = tk t.st
        unfold tk; cases t.st <;> simp
       have hW := Hd (fun w => by have := uY t.st 1 w; rw [hv] at this; exact this)
       clear hv
       go_enter func196, ntmps196
       go_upto_region 1 with (fail)
       rw [show Obj.cells (rl t).toArray 220 (0, 0) = oM t from rfl]
       generalize (w.alloc (oM t)) = W at *
       go_wp2_with (go_at_call 225; refine (hW.out _).mono ?_; rintro e w1 ⟨rfl, rfl⟩)
       go_ret2
       exact ⟨rfl, hB⟩
   . have he : fR o = 10 := by unfold fR; rw [n4, if_neg (by simp), if_pos (by omega)]
     have hv : t.val o = 0 := by unfold Tm.val; rw [he]; rfl
     rw [he, hv]
     have q0 : (o == 0) = false := by simp; omega
     have q4 : (o == 4) = false := by simp; omega
     have q8 : (o == 8) = false := by simp; omega
     have q12 : (o == 12) = false := by simp; omega
     clear he hv
     exact nM
 . have n4 : (o % 4 != 0) = true := by simpa using h4
   have he : fR o = 11 := by unfold fR; rw [n4, if_pos rfl]
   have hv : t.val o = 0 := by unfold Tm.val; rw [he]; rfl
   rw [he, hv]
   clear he hv
   exact nM
end Go.Proofs.YtaohacadochldaaGreat.B
