/- A part of the proof of a law of layer 12: ae. -/
import Derived.Test.YtpojmmgokgamgaaGreatZYad
import Derived.Laws.StructEq
import Derived.ChangeKeysEq
set_option linter.unusedVariables false
set_option linter.unusedSimpArgs false
set_option maxHeartbeats 12800000
set_option maxRecDepth 100000
namespace Go.Proofs.YtpojmmgokgamgaaGreat.B
open Go.Proofs.Tryz
open Go.ChangeShapes Go.WideShapes Go.RowKit Go.Sort
theorem qI {P : Prop} (h : P := by
 go_wp2_with (first | (refine lV rfl (.tmp 1) rfl rfl X2 ?_) | (refine pW rfl (.tmp 2) (.tmp 26) rfl rfl rfl Y2 ?_))
 refine bodyPost_ret (aKF rfl _ _ rfl Y3) rfl ⟨rfl, hB3⟩
 ) : P := h
theorem aDu (ld v c s ph c' : Int) (w : World) (l0 : 0 <= ld) (l1 : ld < 4294967296) (c0 : 0 <= c) (c1 : c < 4294967296) (re : Bool) (hre : aO c 1 = re) (hx : re = false) (hput : put c 0 1 0 = c') :
 Calls prog 271 #[.agg (w5 ld v c s ph).toArray] w fun e w' => e = .returned (.agg (w5 ld 0 c' 1 0).toArray) /\ Below w.heap.size w w' := by
 subst hx
 have hfl := Hd (fun w => by have := wX ld v c s ph 1 1 w c0 c1 rfl (by omega); rw [hre] at this; exact this)
 have hpt := Hd (fun w => by have := Put c 0 1 0 w c0 c1 (by omega) (by omega) (by omega) (by omega); rw [hput] at this; exact this)
 clear hre hput
 have hB := aE (aE (aI w) (.cells (w5 ld v c s ph).toArray 253 (0, 0))) (.cells (w5 0 0 0 0 0).toArray 253 (0, 0))
 have X : A5 _ _ _ ld v c s ph := bG w (.cells (w5 ld v c s ph).toArray 253 (0, 0)) (.cells (w5 0 0 0 0 0).toArray 253 (0, 0))
 have Y : A5 _ _ _ 0 0 0 0 0 := bL w (.cells (w5 ld v c s ph).toArray 253 (0, 0)) (.cells (w5 0 0 0 0 0).toArray 253 (0, 0))
 go_enter func271, ntmps271
 go_upto_region 1 with (fail)
 rw [aA3]
 generalize ((w.alloc (.cells (w5 ld v c s ph).toArray 253 (0, 0))).alloc (.cells (w5 0 0 0 0 0).toArray 253 (0, 0))) = W at *
 have x0 := X.c0
 go_wp2_with (refine lV rfl (.tmp 1) rfl rfl X ?_)
 refine (hfl.out _).mono ?_
 rintro e w1 ⟨rfl, hb⟩
 have X1 := X.below hb
 have Y1 := Y.below hb
 have hB1 := tr hB hb
 clear X Y hB hb x0 W
 have X := X1
 have Y := Y1
 have hB := hB1
 clear X1 Y1 hB1
 generalize w1 = W at *
 have x1 := X.c1
 have x2 := X.c2
 have x3 := X.c3
 have x4 := X.c4
 have f1 := X.free 1
 have f2 := X.free 2
 have f3 := X.free 3
 have f4 := X.free 4
 go_upto_region 7 with (first | (go_at_call 116; refine (hpt.out _).mono ?_; rintro e w2 ⟨rfl, rfl⟩))
 have X2 := (((X.s2 c').s1 0).s3 1).s4 0
 have Y2 := (((Y.other w.heap.size 2 (.int .u32 c') (by omega)).other w.heap.size 1 (.int .u32 0) (by omega)).other w.heap.size 3 (.int .u32 1) (by omega)).other w.heap.size 4 (.int .u64 0) (by omega)
 have hB2 := (((hB.setCell (p := ⟨w.heap.size, 2, none⟩) (by simp) (.int .u32 c')).setCell (p := ⟨w.heap.size, 1, none⟩) (by simp) (.int .u32 0)).setCell (p := ⟨w.heap.size, 3, none⟩) (by simp) (.int .u32 1)).setCell (p := ⟨w.heap.size, 4, none⟩) (by simp) (.int .u64 0)
 clear X Y hB x1 x2 x3 x4 f1 f2 f3 f4
 generalize ((((W.setCell ⟨w.heap.size, 2, none⟩ (.int .u32 c')).setCell ⟨w.heap.size, 1, none⟩ (.int .u32 0)).setCell ⟨w.heap.size, 3, none⟩ (.int .u32 1)).setCell ⟨w.heap.size, 4, none⟩ (.int .u64 0)) = W2 at *
 have Y3 := A5.row Y2 ld 0 c' 1 0
 have hB3 := aB hB2 (w5 ld 0 c' 1 0).toArray (g := w.heap.size + 1) (by omega)
 exact qI
theorem aDr (ld v c s ph c' : Int) (w : World) (l0 : 0 <= ld) (l1 : ld < 4294967296) (c0 : 0 <= c) (c1 : c < 4294967296) (re : Bool) (hre : aO c 1 = re) (hx : re = true /\ ld = 0) (hput : put c 0 1 0 = c') :
 Calls prog 271 #[.agg (w5 ld v c s ph).toArray] w fun e w' => e = .returned (.agg (w5 ld 0 c' 1 0).toArray) /\ Below w.heap.size w w' := by
 obtain ⟨rfl, rfl⟩ := hx
 have hfl := Hd (fun w => by have := wX 0 v c s ph 1 1 w c0 c1 rfl (by omega); rw [hre] at this; exact this)
 have hpt := Hd (fun w => by have := Put c 0 1 0 w c0 c1 (by omega) (by omega) (by omega) (by omega); rw [hput] at this; exact this)
 clear hre hput
 have hB := aE (aE (aI w) (.cells (w5 0 v c s ph).toArray 253 (0, 0))) (.cells (w5 0 0 0 0 0).toArray 253 (0, 0))
 have X : A5 _ _ _ 0 v c s ph := bG w (.cells (w5 0 v c s ph).toArray 253 (0, 0)) (.cells (w5 0 0 0 0 0).toArray 253 (0, 0))
 have Y : A5 _ _ _ 0 0 0 0 0 := bL w (.cells (w5 0 v c s ph).toArray 253 (0, 0)) (.cells (w5 0 0 0 0 0).toArray 253 (0, 0))
 go_enter func271, ntmps271
 go_upto_region 1 with (fail)
 rw [aA3]
 generalize ((w.alloc (.cells (w5 0 v c s ph).toArray 253 (0, 0))).alloc (.cells (w5 0 0 0 0 0).toArray 253 (0, 0))) = W at *
 have x0 := X.c0
 go_wp2_with (refine lV rfl (.tmp 1) rfl rfl X ?_)
 refine (hfl.out _).mono ?_
 rintro e w1 ⟨rfl, hb⟩
 have X1 := X.below hb
 have Y1 := Y.below hb
 have hB1 := tr hB hb
 clear X Y hB hb x0 W
 have X := X1
 have Y := Y1
 have hB := hB1
 clear X1 Y1 hB1
 generalize w1 = W at *
 have x1 := X.c1
 have x2 := X.c2
 have x3 := X.c3
 have x4 := X.c4
 have f1 := X.free 1
 have f2 := X.free 2
 have f3 := X.free 3
 have f4 := X.free 4
 go_upto_region 7 with (first | (go_at_call 116; refine (hpt.out _).mono ?_; rintro e w2 ⟨rfl, rfl⟩))
 have X2 := (((X.s2 c').s1 0).s3 1).s4 0
 have Y2 := (((Y.other w.heap.size 2 (.int .u32 c') (by omega)).other w.heap.size 1 (.int .u32 0) (by omega)).other w.heap.size 3 (.int .u32 1) (by omega)).other w.heap.size 4 (.int .u64 0) (by omega)
 have hB2 := (((hB.setCell (p := ⟨w.heap.size, 2, none⟩) (by simp) (.int .u32 c')).setCell (p := ⟨w.heap.size, 1, none⟩) (by simp) (.int .u32 0)).setCell (p := ⟨w.heap.size, 3, none⟩) (by simp) (.int .u32 1)).setCell (p := ⟨w.heap.size, 4, none⟩) (by simp) (.int .u64 0)
 clear X Y hB x1 x2 x3 x4 f1 f2 f3 f4
 generalize ((((W.setCell ⟨w.heap.size, 2, none⟩ (.int .u32 c')).setCell ⟨w.heap.size, 1, none⟩ (.int .u32 0)).setCell ⟨w.heap.size, 3, none⟩ (.int .u32 1)).setCell ⟨w.heap.size, 4, none⟩ (.int .u64 0)) = W2 at *
 have Y3 := A5.row Y2 0 0 c' 1 0
 have hB3 := aB hB2 (w5 0 0 c' 1 0).toArray (g := w.heap.size + 1) (by omega)
 exact qI
theorem aD7 (ld v c s ph c' : Int) (w : World) (l0 : 0 <= ld) (l1 : ld < 4294967296) (c0 : 0 <= c) (c1 : c < 4294967296) (re : Bool) (hre : aO c 1 = re) (hx : re = true /\ ld ≠ 0) (hput : put c 0 1 0 = c') :
 Calls prog 271 #[.agg (w5 ld v c s ph).toArray] w fun e w' => e = .returned (.agg (w5 ld ld c 1 0).toArray) /\ Below w.heap.size w w' := by
 obtain ⟨rfl, hz⟩ := hx
 have hn : (ld == 0) = false := by simpa using hz
 clear hz
 have hfl := Hd (fun w => by have := wX ld v c s ph 1 1 w c0 c1 rfl (by omega); rw [hre] at this; exact this)
 have hpt := Hd (fun w => by have := Put c 0 1 0 w c0 c1 (by omega) (by omega) (by omega) (by omega); rw [hput] at this; exact this)
 clear hre hput
 have hB := aE (aE (aI w) (.cells (w5 ld v c s ph).toArray 253 (0, 0))) (.cells (w5 0 0 0 0 0).toArray 253 (0, 0))
 have X : A5 _ _ _ ld v c s ph := bG w (.cells (w5 ld v c s ph).toArray 253 (0, 0)) (.cells (w5 0 0 0 0 0).toArray 253 (0, 0))
 have Y : A5 _ _ _ 0 0 0 0 0 := bL w (.cells (w5 ld v c s ph).toArray 253 (0, 0)) (.cells (w5 0 0 0 0 0).toArray 253 (0, 0))
 go_enter func271, ntmps271
 go_upto_region 1 with (fail)
 rw [aA3]
 generalize ((w.alloc (.cells (w5 ld v c s ph).toArray 253 (0, 0))).alloc (.cells (w5 0 0 0 0 0).toArray 253 (0, 0))) = W at *
 have x0 := X.c0
 go_wp2_with (refine lV rfl (.tmp 1) rfl rfl X ?_)
 refine (hfl.out _).mono ?_
 rintro e w1 ⟨rfl, hb⟩
 have X1 := X.below hb
 have Y1 := Y.below hb
 have hB1 := tr hB hb
 clear X Y hB hb x0 W
 have X := X1
 have Y := Y1
 have hB := hB1
 clear X1 Y1 hB1
 generalize w1 = W at *
 have x1 := X.c1
 have x2 := X.c2
 have x3 := X.c3
 have x4 := X.c4
 have f1 := X.free 1
 have f2 := X.free 2
 have f3 := X.free 3
 have f4 := X.free 4
 go_upto_region 7 with (first | (go_at_call 116; refine (hpt.out _).mono ?_; rintro e w2 ⟨rfl, rfl⟩))
 have X2 := ((X.s1 ld).s3 1).s4 0
 have Y2 := ((Y.other w.heap.size 1 (.int .u32 ld) (by omega)).other w.heap.size 3 (.int .u32 1) (by omega)).other w.heap.size 4 (.int .u64 0) (by omega)
 have hB2 := ((hB.setCell (p := ⟨w.heap.size, 1, none⟩) (by simp) (.int .u32 ld)).setCell (p := ⟨w.heap.size, 3, none⟩) (by simp) (.int .u32 1)).setCell (p := ⟨w.heap.size, 4, none⟩) (by simp) (.int .u64 0)
 clear X Y hB x1 x2 x3 x4 f1 f2 f3 f4
 generalize (((W.setCell ⟨w.heap.size, 1, none⟩ (.int .u32 ld)).setCell ⟨w.heap.size, 3, none⟩ (.int .u32 1)).setCell ⟨w.heap.size, 4, none⟩ (.int .u64 0)) = W2 at *
 have Y3 := A5.row Y2 ld ld c 1 0
 have hB3 := aB hB2 (w5 ld ld c 1 0).toArray (g := w.heap.size + 1) (by omega)
 exact qI
theorem aJS (t : Tm) : wl t = w5 t.ld t.v (lT t.en t.re t.iq t.sc) (tk t.st) t.ph := rfl
theorem aOw (t : Tm) (w : World) (h : t.ok) : Calls prog 271 #[.agg (wl t).toArray] w fun e w' => e = .returned (.agg (wl t.exp).toArray) /\ Below w.heap.size w w' := by
 have hre := sZ t.en t.re t.iq t.sc
 have hp := aEO t.en t.re t.iq t.sc h.s0 h.s1
 rw [aJS, aJS]
 unfold Tm.exp
 cases hr : t.re
 . rw [if_neg (by simp)]
   have := aDu t.ld t.v (lT t.en t.re t.iq t.sc) (tk t.st) t.ph _ w h.l0 h.l1 h.c.1 h.c.2 t.re hre hr hp
   rw [hr] at this
   exact this
 . by_cases hl : t.ld = 0
   . rw [if_neg (by simp [hl])]
     have := aDr t.ld t.v (lT t.en t.re t.iq t.sc) (tk t.st) t.ph _ w h.l0 h.l1 h.c.1 h.c.2 t.re hre ⟨hr, hl⟩ hp
     rw [hr] at this
     exact this
   . rw [if_pos (by simp [hl])]
     have := aD7 t.ld t.v (lT t.en t.re t.iq t.sc) (tk t.st) t.ph _ w h.l0 h.l1 h.c.1 h.c.2 t.re hre ⟨hr, hl⟩ hp
     rw [hr] at this
     exact this
theorem aHA (ld v c s ph sc : Int) (w : World) (c0 : 0 <= c) (c1 : c < 4294967296) (hs : field c 8 8 = sc) (s0 : 0 <= sc) (s1 : sc < 256) :
 Calls prog 232 #[.agg (w5 ld v c s ph).toArray] w fun e w' => e = .returned (.int .u64 (sc + 1)) /\ Below w.heap.size w w' :=
 aCs ld v c s ph sc w c0 c1 hs s0 s1
theorem aIk (ld v c s ph sc n : Int) (w : World) (v1 : v < 4294967296) (c0 : 0 <= c) (c1 : c < 4294967296) (hs : field c 8 8 = sc) (s0 : 0 <= sc) (s1 : sc < 256) (p0 : 0 <= ph) (p1 : ph <= sc) (n0 : 0 <= n) (n1 : n < 1099511627776)
 (q0 : 0 <= (ph + n) / (sc + 1)) (q1 : (ph + n) / (sc + 1) <= v) :
 Calls prog 272 #[.agg (w5 ld v c s ph).toArray, .int .u64 n] w fun e w' => e = .returned (.agg (w5 ld (v - (ph + n) / (sc + 1)) c s ((ph + n) % (sc + 1))).toArray) /\ Below w.heap.size w w' := by
 have hp := Hd (fun v ph w => aHA ld v c s ph sc w c0 c1 hs s0 s1)
 clear hs
 have hB := aE (aE (aI w) (.cells (w5 ld v c s ph).toArray 253 (0, 0))) (.cells (w5 0 0 0 0 0).toArray 253 (0, 0))
 have X : A5 _ _ _ ld v c s ph := bG w (.cells (w5 ld v c s ph).toArray 253 (0, 0)) (.cells (w5 0 0 0 0 0).toArray 253 (0, 0))
 have Y : A5 _ _ _ 0 0 0 0 0 := bL w (.cells (w5 ld v c s ph).toArray 253 (0, 0)) (.cells (w5 0 0 0 0 0).toArray 253 (0, 0))
 go_enter func272, ntmps272
 go_upto_region 1 with (fail)
 rw [aA3]
 generalize ((w.alloc (.cells (w5 ld v c s ph).toArray 253 (0, 0))).alloc (.cells (w5 0 0 0 0 0).toArray 253 (0, 0))) = W at *
 have x4 := X.c4
 go_upto_region 2 with (fail)
 have hr : 0 <= (ph + n) % (sc + 1) /\ (ph + n) % (sc + 1) < sc + 1 := eZ (by omega)
 have hl : lo ((ph + n) / (sc + 1)) = (ph + n) / (sc + 1) := by unfold lo; omega
 have hLo := Hd (fun w => by have := Lo ((ph + n) / (sc + 1)) w q0 (by omega); rw [hl] at this; exact this)
 have hk : 0 <= v - (ph + n) / (sc + 1) /\ v - (ph + n) / (sc + 1) < 4294967296 := by omega
 clear hl
 have hX := X.lt
 have hY := Y.lt
 have x0 := X.c0
 have x1 := X.c1
 have x2 := X.c2
 have x3 := X.c3
 have f1 := X.free 1
 have hg := bI
 have hf := cP
 have HX := Hd X
 have HY := Hd Y
 clear X Y
 refine aJ 11 (by kernel_rfl) (by kernel_rfl) ?_
 simp only [List.take_succ_cons, List.take_zero, List.drop_succ_cons, List.drop_zero]
 repeat (first
  | go_big_quiet_skip
  | (go_big_quiet_want; first
      | (refine aHN (.tmp 2) rfl rfl (cV HX.out) ?_; go_simp; go_big_quiet_on)
      | (go_big_quiet_op; first
          | go_big_quiet_on
          | go_big_quiet_call (first
             | (go_at_call 232; exact Calls.regrown_of (hp.out _ _ _))
             | (go_at_call 180; exact Calls.regrown_of ((hLo.out _).mono fun e w' h => ⟨h.1, h.2 ▸ aI _⟩))))))
 refine wpQuiet_nil ?_
 intro _ hw'
 obtain ⟨⟨dq, osq⟩, hw''⟩ := hw'
 subst hw''
 obtain ⟨V, hV⟩ : ∃ V, v - (ph + n) / (sc + 1) = V := ⟨_, rfl⟩
 obtain ⟨R, hR⟩ : ∃ R, (ph + n) % (sc + 1) = R := ⟨_, rfl⟩
 rw [hV]
 go_upto_region 3 with (fail)
 have hbr := below_regrown W dq osq
 have X := (HX.out.below hbr).s1 V
 have Y := (HY.out.below hbr).other w.heap.size 1 (.int .u32 V) (by omega)
 have hB := (tr hB hbr).setCell (p := ⟨w.heap.size, 1, none⟩) (by simp) (.int .u32 V)
 clear HX HY x0 x1 x2 x3 x4 f1 hg hf hbr hX hY hLo
 generalize ((grow (redrawn W dq) osq).setCell ⟨w.heap.size, 1, none⟩ (.int .u32 V)) = W2 at *
 have HV := Hd hV
 have HR := Hd hR
 clear q0 q1 hk hV
 go_wp2_with (refine lV rfl (.tmp 2) rfl rfl X ?_)
 refine (hp.out _ _ _).mono ?_
 rintro e W3 ⟨rfl, hb⟩
 have X1 := X.below hb
 have Y1 := Y.below hb
 have hB1 := tr hB hb
 clear X Y hB hb
 have f4 := X1.free 4
 have x4 := X1.c4
 go_upto_region 4 with (fail)
 rw [hR]
 clear hR hr
 have X2 := X1.s4 R
 have Y2 := Y1.other w.heap.size 4 (.int .u64 R) (by omega)
 have hB2 := hB1.setCell (p := ⟨w.heap.size, 4, none⟩) (by simp) (.int .u64 R)
 clear X1 Y1 hB1 f4 x4
 generalize W3.setCell ⟨w.heap.size, 4, none⟩ (.int .u64 R) = W4 at *
 have Y3 := A5.row Y2 ld V c s R
 have hB3 := aB hB2 (w5 ld V c s R).toArray (g := w.heap.size + 1) (by omega)
 go_wp2_with (first | (refine lV rfl (.tmp 2) rfl rfl X2 ?_) | (refine pW rfl (.tmp 4) (.tmp 26) rfl rfl rfl Y2 ?_))
 refine bodyPost_ret (aKF rfl _ _ rfl Y3) rfl ⟨by rw [<- HV.out, <- HR.out], hB3⟩
theorem aPE (t : Tm) (n : Int) (w : World) (h : t.ok) (n0 : 0 <= n) (hn : n < t.left) : Calls prog 272 #[.agg (wl t).toArray, .int .u64 n] w fun e w' => e = .returned (.agg (wl (t.lat n)).toArray) /\ Below w.heap.size w w' := by
 have hs := lG h.v0 h.s0 h.p0 n0 hn
 have hl := h.left
 exact aIk t.ld t.v (lT t.en t.re t.iq t.sc) (tk t.st) t.ph t.sc n w h.v1 h.c.1 h.c.2 (wD _ _ _ _ h.s0 h.s1) h.s0 h.s1 h.p0 h.p1 n0 (by omega) hs.1 hs.2.2
theorem aFB (ld v c s ph : Int) (w : World) (c0 : 0 <= c) (c1 : c < 4294967296) (r : Bool) (hr : aO c 0 = r) :
 Calls prog 214 #[.agg (w5 ld v c s ph).toArray, .int .i64 0] w fun e w' => e = .returned (.bool r) /\ Below w.heap.size w w' := by
 have := wX ld v c s ph 0 0 w c0 c1 rfl (by omega)
 rw [hr] at this
 exact this
theorem qV {P : Prop} (h : P := by
 refine bodyPost_ret (aKF rfl _ _ rfl Y3) rfl ⟨rfl, hB3⟩
 ) : P := h
theorem aDm (ld v c s ph x c' a b : Int) (ran b0 : Bool) (w : World) (c0 : 0 <= c) (c1 : c < 4294967296) (x0 : 0 <= x) (x1 : x < 4294967296) (hr : aO c 0 = ran) (d0 : 0 <= c') (d1 : c' < 4294967296) (hb : aO c' 0 = b0)
 (ha : field x 0 3 = a) (hb8 : field x 8 8 = b) (hp : put a 8 8 b = c') :
 Calls prog 270 #[.agg (w5 ld v c s ph).toArray, .int .u32 x] w fun e w' => e = .returned (.agg (w5 ld (if (!ran && b0) = true then ld else v) c' s 0).toArray) /\ Below w.heap.size w w' := by
 obtain ⟨a0, a1⟩ : 0 <= a /\ a < 4294967296 := by rw [<- ha]; exact pH _ _ _ x0 x1
 obtain ⟨e0, e1⟩ : 0 <= b /\ b < 4294967296 := by rw [<- hb8]; exact pH _ _ _ x0 x1
 have hF1 := Hd (fun w => aFB ld v c s ph w c0 c1 ran hr)
 have hF2 := Hd (fun w => aFB ld v c' s 0 w d0 d1 b0 hb)
 have hA := Hd (fun w => by have := Field x 0 3 w x0 x1 (by omega) (by omega); rw [ha] at this; exact this)
 have hE := Hd (fun w => by have := Field x 8 8 w x0 x1 (by omega) (by omega); rw [hb8] at this; exact this)
 have hP := Hd (fun w => by have := Put a 8 8 b w a0 a1 (by omega) (by omega) e0 e1; rw [hp] at this; exact this)
 clear hr hb ha hb8 hp
 have hB := aE (aE (aI w) (.cells (w5 ld v c s ph).toArray 253 (0, 0))) (.cells (w5 0 0 0 0 0).toArray 253 (0, 0))
 have X : A5 _ _ _ ld v c s ph := bG w (.cells (w5 ld v c s ph).toArray 253 (0, 0)) (.cells (w5 0 0 0 0 0).toArray 253 (0, 0))
 have Y : A5 _ _ _ 0 0 0 0 0 := bL w (.cells (w5 ld v c s ph).toArray 253 (0, 0)) (.cells (w5 0 0 0 0 0).toArray 253 (0, 0))
 go_enter func270, ntmps270
 go_upto_region 1 with (fail)
 rw [aA3]
 generalize ((w.alloc (.cells (w5 ld v c s ph).toArray 253 (0, 0))).alloc (.cells (w5 0 0 0 0 0).toArray 253 (0, 0))) = W at *
 go_wp2_with (refine lV rfl (.tmp 2) rfl rfl X ?_)
 refine (hF1.out _).mono ?_
 rintro e W1 ⟨rfl, hb⟩
 have X1 := X.below hb
 have Y1 := Y.below hb
 have hB1 := tr hB hb
 clear X Y hB hb hF1
 go_wp2_with fail
 refine (hA.out _).mono ?_
 rintro e W2 ⟨rfl, k1, rfl⟩
 go_wp2_with fail
 refine (hE.out _).mono ?_
 rintro e W3 ⟨rfl, k2, rfl⟩
 have hd := tQ (tQ (aI W1) k1) k2
 have X := X1.below hd
 have Y := Y1.below hd
 have hB := tr hB1 hd
 clear X1 Y1 hB1 hd hA hE
 generalize ((W1.drewN k1).drewN k2) = W3 at *
 have z2 := X.c2
 have z4 := X.c4
 have f2 := X.free 2
 have f4 := X.free 4
 go_upto_region 6 with (first | (go_at_call 116; refine (hP.out _).mono ?_; rintro e w2 ⟨rfl, rfl⟩))
 have X2 := (X.s2 c').s4 0
 have Y2 := (Y.other w.heap.size 2 (.int .u32 c') (by omega)).other w.heap.size 4 (.int .u64 0) (by omega)
 have hB2 := (hB.setCell (p := ⟨w.heap.size, 2, none⟩) (by simp) (.int .u32 c')).setCell (p := ⟨w.heap.size, 4, none⟩) (by simp) (.int .u64 0)
 clear X Y hB z2 z4 f2 f4 hP
 generalize ((W3.setCell ⟨w.heap.size, 2, none⟩ (.int .u32 c')).setCell ⟨w.heap.size, 4, none⟩ (.int .u64 0)) = W4 at *
 cases ran
 . go_wp2_with (refine aGm (.tmp 2) rfl rfl rfl X2 ?_)
   refine (hF2.out _).mono ?_
   rintro e W5 ⟨rfl, hb⟩
   have X := X2.below hb
   have Y := Y2.below hb
   have hB := tr hB2 hb
   clear X2 Y2 hB2 hb hF2
   cases b0
   . have Y3 := A5.row Y ld v c' s 0
     have hB3 := aB hB (w5 ld v c' s 0).toArray (g := w.heap.size + 1) (by omega)
     go_wp2_with (first | (refine lV rfl (.tmp 2) rfl rfl X ?_) | (refine pW rfl (.tmp 4) (.tmp 31) rfl rfl rfl Y ?_))
     exact qV
   . have z0 := X.c0
     have z1 := X.c1
     have f1 := X.free 1
     go_upto_region 8 with (fail)
     have X2 := X.s1 ld
     have Y2 := Y.other w.heap.size 1 (.int .u32 ld) (by omega)
     have hB2 := hB.setCell (p := ⟨w.heap.size, 1, none⟩) (by simp) (.int .u32 ld)
     clear X Y hB z0 z1 f1
     generalize (W5.setCell ⟨w.heap.size, 1, none⟩ (.int .u32 ld)) = W6 at *
     have Y3 := A5.row Y2 ld ld c' s 0
     have hB3 := aB hB2 (w5 ld ld c' s 0).toArray (g := w.heap.size + 1) (by omega)
     go_wp2_with (first | (refine lV rfl (.tmp 2) rfl rfl X2 ?_) | (refine pW rfl (.tmp 4) (.tmp 31) rfl rfl rfl Y2 ?_))
     exact qV
 . have Y3 := A5.row Y2 ld v c' s 0
   have hB3 := aB hB2 (w5 ld v c' s 0).toArray (g := w.heap.size + 1) (by omega)
   go_wp2_with (first | (refine lV rfl (.tmp 2) rfl rfl X2 ?_) | (refine pW rfl (.tmp 4) (.tmp 31) rfl rfl rfl Y2 ?_))
   exact qV
def Tm.ord (t : Tm) (x : Int) : Tm := { t with v := if (!t.en && aO x 0) = true then t.ld else t.v, en := aO x 0, re := aO x 1, iq := aO x 2, sc := x / 256 % 256, ph := 0 }
theorem Tm.ord_ok {t : Tm} (h : t.ok) (x : Int) : (t.ord x).ok := by
 have hv : 0 <= (t.ord x).v /\ (t.ord x).v < 4294967296 := by
  show 0 <= (if (!t.en && aO x 0) = true then t.ld else t.v) /\ (if (!t.en && aO x 0) = true then t.ld else t.v) < 4294967296
  have := h.l0; have := h.l1; have := h.v0; have := h.v1
  split <;> omega
 exact ⟨h.l0, h.l1, hv.1, hv.2, by show 0 <= x / 256 % 256; omega, by show x / 256 % 256 < 256; omega, Int.le_refl 0, by show 0 <= x / 256 % 256; omega⟩
theorem aO9 (t : Tm) (x : Int) (w : World) (h : t.ok) (x0 : 0 <= x) (x1 : x < 4294967296) : Calls prog 270 #[.agg (wl t).toArray, .int .u32 x] w fun e w' => e = .returned (.agg (wl (t.ord x)).toArray) /\ Below w.heap.size w w' := by
 have hc := (Tm.ord_ok h x).c
 exact aDm t.ld t.v (lT t.en t.re t.iq t.sc) (tk t.st) t.ph x (lT (aO x 0) (aO x 1) (aO x 2) (x / 256 % 256)) _ _ t.en (aO x 0) w h.c.1 h.c.2 x0 x1 (lU _ _ _ _) hc.1 hc.2 (lU _ _ _ _) rfl rfl (aI1 x x0 x1)
def eqs (xs ys : List Int) : Bool := xs == ys
theorem pC {P : Program} (d : Nat) (e : TypeId) (k : IntKind) (he : P.underlying e = some (.int k)) (xs ys : List Int) (w : World) : ∀ is : List Nat, (∀ i ∈ is, i < xs.length /\ i < ys.length) ->
 (Op.eqItems (d + 1) e 1 (xs.map (Value.int k)).toArray (ys.map (Value.int k)).toArray is).run P w = .ok (is.all fun i => xs.getD i 0 == ys.getD i 0) w := by
 intro is
 induction is with
 | nil => intro _; simp [Op.eqItems]
 | cons i is ih =>
   intro h
   obtain ⟨hx, hy⟩ := h i (by simp)
   have px : (part e (xs.map (Value.int k)).toArray (i * 1)).run P w = .ok (.int k (xs.getD i 0)) w := by
    simp [part, isAgg, run_underlying he, List.getD, List.getElem?_eq_getElem hx]
   have py : (part e (ys.map (Value.int k)).toArray (i * 1)).run P w = .ok (.int k (ys.getD i 0)) w := by
    simp [part, isAgg, run_underlying he, List.getD, List.getElem?_eq_getElem hy]
   simp only [Op.eqItems, Sem.run_bind, px, py, run_equalIn_int w d e k k _ _ he, Result.andThen_ok, List.all_cons]
   cases hb : (xs.getD i 0 == ys.getD i 0)
   . simp
   . simp only [Bool.not_true, Bool.false_eq_true, if_false, Bool.true_and]
     exact ih fun j hj => h j (by simp [hj])
theorem vB (xs ys : List Int) (h : xs.length = ys.length) : ((List.range xs.length).all fun i => xs.getD i 0 == ys.getD i 0) = eqs xs ys := by
 unfold eqs
 rw [Bool.eq_iff_iff, List.all_eq_true, beq_iff_eq]
 constructor
 . intro hh
   apply List.ext_getElem h
   intro i h1 h2
   have := hh i (by simp [h1])
   simpa [List.getD, List.getElem?_eq_getElem h1, List.getElem?_eq_getElem h2] using this
 . rintro rfl i _; simp
theorem eqW (a b c d e a' b' c' d' e' : Int) (w : World) :
 (Op.equalIn 10000 253 (.agg (w5 a b c d e).toArray) (.agg (w5 a' b' c' d' e').toArray)).run prog w = .ok (eqs [a, b, c, d] [a', b', c', d'] && (e == e')) w := by
 have hi : (prog.info? 22).isSome = true := by kernel_rfl
 obtain ⟨i, hi⟩ := Option.isSome_iff_exists.1 hi
 have hc : prog.cellsOf 22 = 1 := by kernel_rfl
 have h := run_equalIn_array w 9998 (i := i) #[.int .u32 a, .int .u32 b, .int .u32 c, .int .u32 d] #[.int .u32 a', .int .u32 b', .int .u32 c', .int .u32 d'] underlying181 hi
 rw [hc] at h
 have g := pC 9997 22 .u32 underlying22 [a, b, c, d] [a', b', c', d'] w (List.range 4) (by intro i hi; simpa using hi)
 have r := vB [a, b, c, d] [a', b', c', d'] rfl
 have key := (h.trans g).trans (congrArg (fun b => Result.ok b w) r)
 rw [run_equalIn_struct w 9999 253 _ _ (by kernel_rfl) (by kernel_rfl)]
 simp only [Program.fieldsOf, underlying253]
 simp only [Op.eqFields]
 have pa : ∀ a b c d e : Int, (part 181 (w5 a b c d e).toArray 0).run prog w = .ok (.agg #[.int .u32 a, .int .u32 b, .int .u32 c, .int .u32 d]) w := fun a b c d e => by
  have hs : (sizeOf 181).run prog w = .ok 4 w := by kernel_rfl
  have ha : (isAgg 181).run prog w = .ok true w := by kernel_rfl
  simp [part, ha, hs, Sem.run_bind, w5]
 have pb : ∀ a b c d e : Int, (part 37 (w5 a b c d e).toArray 4).run prog w = .ok (.int .u64 e) w := fun a b c d e => by
  have ha : (isAgg 37).run prog w = .ok false w := by kernel_rfl
  simp [part, ha, Sem.run_bind, w5]
 rw [if_pos (by decide), if_pos (by decide)]
 simp only [Sem.run_bind, pa, pb, Result.andThen_ok, key, run_equalIn_int w 9998 37 .u64 .u64 e e' underlying37]
 cases eqs [a, b, c, d] [a', b', c', d']
 . simp
 . have hq := run_equalIn_int w 9998 37 .u64 .u64 e e' underlying37
   rw [show 9998 + 1 = 9999 from rfl] at hq
   cases hx : e == e'
   . rw [hx] at hq; simp [pb, hq]
   . rw [hx] at hq; simp [pb, hq]
def eqT (s t : Tm) : Bool := eqs [s.ld, s.v, lT s.en s.re s.iq s.sc, tk s.st] [t.ld, t.v, lT t.en t.re t.iq t.sc, tk t.st] && (s.ph == t.ph)
theorem aO8 (s t : Tm) (w : World) : (Op.equalIn 10000 253 (.agg (wl s).toArray) (.agg (wl t).toArray)).run prog w = .ok (eqT s t) w := eqW _ _ _ _ _ _ _ _ _ _ w
theorem aMs {C : World -> Prop} {o : Oper} {a : Act} {K : Act -> Prop} (x y : Operand) (u : TypeId) (ho : o.op = .binOp .eql 253 x y u) {s t : Tm} (hx : a.eval x = .agg (wl s).toArray) (hy : a.eval y = .agg (wl t).toArray)
 (h : K (a.put o.dst (.bool (eqT s t)))) : o.quiet prog a C K :=
 ⟨_, fun w hw => by
  have hg : (eqGuard .eql 253 x y (.agg (wl s).toArray) (.agg (wl t).toArray)).run prog w = .ok () w := by
   have e : prog.eqGuardType prog.depth 253 = false := by kernel_rfl
   simp [eqGuard, Sem.run_bind, run_program, e]
  have hb : (binOp .eql 253 (.agg (wl s).toArray) (.agg (wl t).toArray)).run prog w = .ok (.bool (eqT s t)) w := by
   have e := aO8 s t w
   simp only [binOp, Op.equal, Sem.run_bind, Op.maxDepth]
   rw [e]
   rfl
  unfold Oper.quietAt execOp
  simp only [ho, hx, hy, Sem.run_bind, hg, hb, Result.andThen_ok]
  exact ⟨rfl, rfl⟩, h⟩
theorem aIM {t : Tm} (he : t.en = true) (h : eqT t.exp t = true) : t.exp = t := by
 unfold eqT eqs at h
 simp only [Bool.and_eq_true, beq_iff_eq, List.cons.injEq, and_true] at h
 obtain ⟨⟨h1, h2, h3, h4⟩, h5⟩ := h
 have hen : t.exp.en = t.en := (aHq h3).1
 have hst := aKf h4
 unfold Tm.exp at h2 hen hst h5 ⊢
 by_cases c : (t.re && t.ld != 0) = true
 . rw [if_pos c] at h2 hst h5 ⊢
   show Tm.mk t.ld t.ld t.en t.re t.iq t.sc 0 true = t
   obtain ⟨ld, v, en, re, iq, sc, ph, st⟩ := t
   simp only at h2 hst h5
   subst h2 hst h5
   rfl
 . rw [if_neg c] at hen
   rw [he] at hen
   cases hen
end Go.Proofs.YtpojmmgokgamgaaGreat.B
