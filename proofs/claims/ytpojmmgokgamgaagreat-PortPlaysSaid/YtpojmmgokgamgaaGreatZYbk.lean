/- A part of the proof of a law of layer 12: bk. -/
import Derived.Test.YtpojmmgokgamgaaGreatZYbj
set_option linter.unusedVariables false
set_option linter.unusedSimpArgs false
set_option maxHeartbeats 12800000
set_option maxRecDepth 100000
namespace Go.Proofs.YtpojmmgokgamgaaGreat.B
open Go.Proofs.Tryz
open Go.ChangeShapes Go.WideShapes Go.RowKit Go.Sort
theorem MV.row {w : World} {c g cap : Nat} {x : Bx} {ev : Value} (M : MV w c x (.slice (some ⟨g, 0, none⟩) c cap) ev) : eH w g c cap x.tm := by
 obtain ⟨g', cap', h1, h2⟩ := M.k
 cases h1
 exact h2
theorem Fr.like {w0 w : World} {b r n : Nat} {y : Bx} {bk ev : Value} (F : Fr w0 w b r n y bk ev) (z : Bx) (h : ml n y bk ev = ml n z bk ev := by rfl) : Fr w0 w b r n z bk ev :=
 { F with h := by have := F.h; unfold eR at *; rw [<- h]; exact this }
theorem aMS (n c : Nat) (x : Bx) (bk ev : Value) (N : Int) (w : World) (M : MV w c x bk ev) (ok : x.ok n c) (hs : x.still) (n0 : 0 <= N) (n1 : N < 18446744073709551616) (hl : x.es.length < 4294967296) (hfx : (x.later N).wd.fa = 0) :
 Calls prog 34 #[.agg (ml n x bk ev).toArray, .int .u64 N] w (mS n c (x.later N) w) := by
 have one := M.one
 have hfr := gN w n x bk ev one
 have hM0 := M.below (aE (aE (aI w) (bR n x bk ev)) eT)
 have HOK := Hd ok
 have HLN := Hd hl
 obtain ⟨gk, capk, rfl, hrk⟩ := M.k
 have HN0 := Hd n0
 have HN1 := Hd n1
 have hrb := fX ok.wd hs.1 n0
 have HRB := Hd hrb
 have HFA := Hd hs.1
 have HYK := Hd (Bx.later_ok ok hs.1 n0 n1)
 have HFX := Hd hfx
 have HWS := Hd (show IntKind.u64.wrap (N - x.wd.ran N) = N - x.wd.ran N from by rw [IntKind.wrap_u64]; omega)
 clear hl hrk hrb hs ok hfx n0 n1
 go_enter func34, ntmps34
 go_upto_region 1 with (fail)
 rw [bU, dX]
 generalize ((w.alloc (bR n x (.slice (some ⟨gk, 0, none⟩) c capk) ev)).alloc eT) = W at *
 generalize w.heap.size + 1 = r at *
 generalize hbn : w.heap.size = b at *
 have HF := Hd hfr
 have HM := Hd hM0
 clear hfr hM0 M one hbn
 go_upto_region 2 with (first | (refine sO rfl (.tmp 8) rfl rfl HF.out.h ?_) | (go_at_call 64; refine (aJ1 x.wd N _ HOK.out.wd HN0.out HN1.out).mono ?_; rintro e w1 ⟨rfl, b1⟩; have HF := Hd (HF.out.below b1); have HM := Hd (HM.out.below b1); clear b1) | (rw [fE]; refine dK rfl (.tmp 5) (.tmp 12) rfl rfl (t := x.wd.tick N) rfl (t' := wz) (aD w1 zV) ?_; have hBl := aB (aE (aI w1) zV) (vl (x.wd.tick N)).toArray (g := w1.heap.size) (Nat.le_refl _); have HD := Hd (bW.row (aD w1 zV) (x.wd.tick N)); have HF := Hd (HF.out.below hBl); have HM := Hd (HM.out.below hBl); clear hBl; generalize (w1.alloc zV).setRow w1.heap.size (vl (x.wd.tick N)).toArray = w2 at *; generalize w1.heap.size = q at *))
 go_upto_region 3 with (first | (refine bS rfl (.tmp 5) rfl rfl HD.out ?_; clear HD) | (refine oT rfl (.tmp 15) (.tmp 14) rfl rfl (x.wd.tick N) rfl HF.out ?_; intro w3 hF2 ho2; have HM := Hd (dP HM.out ho2 HF.out.h); have HF := Hd hF2; clear hF2 ho2))
 go_upto_region 4 with (first | (refine oA rfl (.tmp 16) rfl rfl HF.out.h ?_) | (go_at_call 65; refine (aBY (x.wd.ran N) x.ti n _ _ _ _ HOK.out.t0 HOK.out.t1 HRB.out.1 (Int.lt_of_le_of_lt HRB.out.2 HN1.out)).mono ?_; rintro e w4 ⟨rfl, b1⟩; have HF := Hd (HF.out.below b1); have HM := Hd (HM.out.below b1); clear b1) | (refine oX rfl (.tmp 20) (.tmp 19) rfl rfl (eC x.ti (x.wd.ran N)) x.D x.S rfl HF.out ?_; intro w5 hF2 ho2; have HM := Hd (dP HM.out ho2 HF.out.h); have HF := Hd hF2; clear hF2 ho2))
 have cB := HF.out.h.cB
 go_upto_region 5 with (go_at_call 66; refine (aJ3 HM.out.row (fun i hi => HOK.out.tm i hi) HOK.out.c0 HOK.out.c8 (x.wd.ran N) HRB.out.1 (Int.lt_of_le_of_lt HRB.out.2 HN1.out)).mono ?_; rintro e w6 ⟨g6, cap6, rfl, hg6, hr6, b6⟩; have HR := Hd hr6; have HF := Hd (HF.out.below b6); have HM := Hd (HM.out.below b6); clear cB hr6 b6 hg6; have cB := HF.out.h.cB; have fB := HF.out.h.free 26; have lB := HF.out.h.lt)
 clear cB fB lB
 have hso := aG w6 b 26 (.slice (some ⟨g6, 0, none⟩) c cap6)
 have hF7 := HF.out.turn (HF.out.h.setB (.slice (some ⟨g6, 0, none⟩) c cap6)) hso ⟨rfl, HF.out.one.2⟩
 have hM7 : MV (w6.setCell ⟨b, 26, none⟩ (.slice (some ⟨g6, 0, none⟩) c cap6)) c (x.later N) (.slice (some ⟨g6, 0, none⟩) c cap6) ev := ⟨⟨g6, cap6, rfl, HR.out.off hso (HR.out.ne HF.out.h rfl)⟩, oI HM.out.e hso HF.out.h⟩
 generalize w6.setCell ⟨b, 26, none⟩ (.slice (some ⟨g6, 0, none⟩) c cap6) = w7 at *
 have HF := Hd hF7
 have HM := Hd hM7
 clear hso hF7 hM7 HR
 go_upto_region 6 with (first | (refine qA rfl (.tmp 26) rfl rfl HF.out.h ?_) | (go_at_call 67; refine (aE5 x.rk (x.wd.ran N) _ HOK.out.rk HRB.out.1 (Int.lt_of_le_of_lt HRB.out.2 HN1.out)).mono ?_; rintro e w8 ⟨rfl, b1⟩; have HF := Hd (HF.out.below b1); have HM := Hd (HM.out.below b1); clear b1) | (refine pG rfl (.tmp 30) (.tmp 29) rfl rfl (x.rk.tick (x.wd.ran N)) rfl HF.out ?_; intro w9 hF2 ho2; have HM := Hd (dP HM.out ho2 HF.out.h); have HF := Hd hF2; clear hF2 ho2))
 have HF := Hd (HF.out.like (x.later N))
 have cF := HF.out.h.cF
 rw [HFX.out] at cF
 go_wp2_with (first | (refine dM rfl (.tmp 2) rfl rfl HF.out.h ?_) | (obtain ⟨cz, hz1, hz2⟩ := HF.out.z; refine dN rfl (.tmp 4) (.tmp 35) rfl rfl (x.later N) (.slice (some ⟨g6, 0, none⟩) c cap6) _ n rfl hz1 hz2 HF.out.one ?_; intro u10 hN10 ho10; have HX := Hd (yE HF.out HM.out hN10 ho10); have HN10 := Hd hN10; clear hN10 ho10 hz1 hz2))
 exact bodyPost_ret (aIr rfl _ _ rfl HN10.out) rfl HX.out
theorem aLP (n c : Nat) (x : Bx) (bk ev : Value) (N : Int) (w : World) (M : MV w c x bk ev) (ok : x.ok n c) (hs : x.still) (n0 : 0 <= N) (n1 : N < 18446744073709551616) (hl : x.es.length < 4294967296) (hfx : (x.later N).wd.fa = 2) :
 Calls prog 34 #[.agg (ml n x bk ev).toArray, .int .u64 N] w (mS n c ({ (x.later N).rst 2 with ti := eC (x.later N).ti (N - x.wd.ran N), rk := (x.later N).rk.zero.tick (N - x.wd.ran N) } : Bx) w) := by
 have one := M.one
 have hfr := gN w n x bk ev one
 have hM0 := M.below (aE (aE (aI w) (bR n x bk ev)) eT)
 have HOK := Hd ok
 have HLN := Hd hl
 obtain ⟨gk, capk, rfl, hrk⟩ := M.k
 have HN0 := Hd n0
 have HN1 := Hd n1
 have hrb := fX ok.wd hs.1 n0
 have HRB := Hd hrb
 have HFA := Hd hs.1
 have HYK := Hd (Bx.later_ok ok hs.1 n0 n1)
 have HFX := Hd hfx
 have HWS := Hd (show IntKind.u64.wrap (N - x.wd.ran N) = N - x.wd.ran N from by rw [IntKind.wrap_u64]; omega)
 clear hl hrk hrb hs ok hfx n0 n1
 go_enter func34, ntmps34
 go_upto_region 1 with (fail)
 rw [bU, dX]
 generalize ((w.alloc (bR n x (.slice (some ⟨gk, 0, none⟩) c capk) ev)).alloc eT) = W at *
 generalize w.heap.size + 1 = r at *
 generalize hbn : w.heap.size = b at *
 have HF := Hd hfr
 have HM := Hd hM0
 clear hfr hM0 M one hbn
 go_upto_region 2 with (first | (refine sO rfl (.tmp 8) rfl rfl HF.out.h ?_) | (go_at_call 64; refine (aJ1 x.wd N _ HOK.out.wd HN0.out HN1.out).mono ?_; rintro e w1 ⟨rfl, b1⟩; have HF := Hd (HF.out.below b1); have HM := Hd (HM.out.below b1); clear b1) | (rw [fE]; refine dK rfl (.tmp 5) (.tmp 12) rfl rfl (t := x.wd.tick N) rfl (t' := wz) (aD w1 zV) ?_; have hBl := aB (aE (aI w1) zV) (vl (x.wd.tick N)).toArray (g := w1.heap.size) (Nat.le_refl _); have HD := Hd (bW.row (aD w1 zV) (x.wd.tick N)); have HF := Hd (HF.out.below hBl); have HM := Hd (HM.out.below hBl); clear hBl; generalize (w1.alloc zV).setRow w1.heap.size (vl (x.wd.tick N)).toArray = w2 at *; generalize w1.heap.size = q at *))
 go_upto_region 3 with (first | (refine bS rfl (.tmp 5) rfl rfl HD.out ?_; clear HD) | (refine oT rfl (.tmp 15) (.tmp 14) rfl rfl (x.wd.tick N) rfl HF.out ?_; intro w3 hF2 ho2; have HM := Hd (dP HM.out ho2 HF.out.h); have HF := Hd hF2; clear hF2 ho2))
 go_upto_region 4 with (first | (refine oA rfl (.tmp 16) rfl rfl HF.out.h ?_) | (go_at_call 65; refine (aBY (x.wd.ran N) x.ti n _ _ _ _ HOK.out.t0 HOK.out.t1 HRB.out.1 (Int.lt_of_le_of_lt HRB.out.2 HN1.out)).mono ?_; rintro e w4 ⟨rfl, b1⟩; have HF := Hd (HF.out.below b1); have HM := Hd (HM.out.below b1); clear b1) | (refine oX rfl (.tmp 20) (.tmp 19) rfl rfl (eC x.ti (x.wd.ran N)) x.D x.S rfl HF.out ?_; intro w5 hF2 ho2; have HM := Hd (dP HM.out ho2 HF.out.h); have HF := Hd hF2; clear hF2 ho2))
 have cB := HF.out.h.cB
 go_upto_region 5 with (go_at_call 66; refine (aJ3 HM.out.row (fun i hi => HOK.out.tm i hi) HOK.out.c0 HOK.out.c8 (x.wd.ran N) HRB.out.1 (Int.lt_of_le_of_lt HRB.out.2 HN1.out)).mono ?_; rintro e w6 ⟨g6, cap6, rfl, hg6, hr6, b6⟩; have HR := Hd hr6; have HF := Hd (HF.out.below b6); have HM := Hd (HM.out.below b6); clear cB hr6 b6 hg6; have cB := HF.out.h.cB; have fB := HF.out.h.free 26; have lB := HF.out.h.lt)
 clear cB fB lB
 have hso := aG w6 b 26 (.slice (some ⟨g6, 0, none⟩) c cap6)
 have hF7 := HF.out.turn (HF.out.h.setB (.slice (some ⟨g6, 0, none⟩) c cap6)) hso ⟨rfl, HF.out.one.2⟩
 have hM7 : MV (w6.setCell ⟨b, 26, none⟩ (.slice (some ⟨g6, 0, none⟩) c cap6)) c (x.later N) (.slice (some ⟨g6, 0, none⟩) c cap6) ev := ⟨⟨g6, cap6, rfl, HR.out.off hso (HR.out.ne HF.out.h rfl)⟩, oI HM.out.e hso HF.out.h⟩
 generalize w6.setCell ⟨b, 26, none⟩ (.slice (some ⟨g6, 0, none⟩) c cap6) = w7 at *
 have HF := Hd hF7
 have HM := Hd hM7
 clear hso hF7 hM7 HR
 go_upto_region 6 with (first | (refine qA rfl (.tmp 26) rfl rfl HF.out.h ?_) | (go_at_call 67; refine (aE5 x.rk (x.wd.ran N) _ HOK.out.rk HRB.out.1 (Int.lt_of_le_of_lt HRB.out.2 HN1.out)).mono ?_; rintro e w8 ⟨rfl, b1⟩; have HF := Hd (HF.out.below b1); have HM := Hd (HM.out.below b1); clear b1) | (refine pG rfl (.tmp 30) (.tmp 29) rfl rfl (x.rk.tick (x.wd.ran N)) rfl HF.out ?_; intro w9 hF2 ho2; have HM := Hd (dP HM.out ho2 HF.out.h); have HF := Hd hF2; clear hF2 ho2))
 have HF := Hd (HF.out.like (x.later N))
 have cF := HF.out.h.cF
 rw [HFX.out] at cF
 go_upto_region 9 with (first | (refine dM rfl (.tmp 2) rfl rfl HF.out.h ?_) | (go_at_call 68; refine (aCf n c (x.later N) _ _ 2 _ HM.out HYK.out HLN.out).mono ?_; rintro e w10 ⟨bk8, ev8, rfl, M8, b8⟩; have HF := Hd (HF.out.below b8); have HM := Hd M8; clear M8 b8 cF) | (refine dN rfl (.tmp 2) (.tmp 40) rfl rfl ((x.later N).rst 2) bk8 ev8 n rfl HF.out.h (by rw [List.size_toArray, bZ]) HM.out.one ?_; intro w11 hN9 ho9; have HM := Hd (dP HM.out ho9 HF.out.h); have HF := Hd (HF.out.turn hN9 ho9 HM.out.one); clear hN9 ho9))
 have hws := HWS.out
 go_upto_region 10 with (first | (refine oA rfl (.tmp 41) rfl rfl HF.out.h ?_) | (go_at_call 65; refine (aBY (N - x.wd.ran N) (x.later N).ti n _ _ _ _ HYK.out.t0 HYK.out.t1 (Int.sub_nonneg_of_le HRB.out.2) (by have := HRB.out; have := HN1.out; omega)).mono ?_; rintro e w12 ⟨rfl, b1⟩; have HF := Hd (HF.out.below b1); have HM := Hd (HM.out.below b1); clear b1) | (refine oX rfl (.tmp 47) (.tmp 46) rfl rfl (eC (x.later N).ti (N - x.wd.ran N)) nvD iH rfl HF.out ?_; intro w13 hF2 ho2; have HM := Hd (dP HM.out ho2 HF.out.h); have HF := Hd hF2; clear hF2 ho2))
 go_upto_region 11 with (first | (refine qA rfl (.tmp 48) rfl rfl HF.out.h ?_) | (go_at_call 67; refine (aE5 (x.later N).rk.zero (N - x.wd.ran N) _ (Rk.zero_ok HYK.out.rk) (Int.sub_nonneg_of_le HRB.out.2) (by have := HRB.out; have := HN1.out; omega)).mono ?_; rintro e w14 ⟨rfl, b1⟩; have HF := Hd (HF.out.below b1); have HM := Hd (HM.out.below b1); clear b1) | (refine pG rfl (.tmp 54) (.tmp 53) rfl rfl ((x.later N).rk.zero.tick (N - x.wd.ran N)) rfl HF.out ?_; intro w15 hF2 ho2; have HM := Hd (dP HM.out ho2 HF.out.h); have HF := Hd hF2; clear hF2 ho2))
 have HF := Hd (HF.out.like ({ (x.later N).rst 2 with ti := eC (x.later N).ti (N - x.wd.ran N), rk := (x.later N).rk.zero.tick (N - x.wd.ran N) } : Bx))
 have HM := Hd (show MV w15 c ({ (x.later N).rst 2 with ti := eC (x.later N).ti (N - x.wd.ran N), rk := (x.later N).rk.zero.tick (N - x.wd.ran N) } : Bx) bk8 ev8 from ⟨HM.out.k, HM.out.e⟩)
 go_wp2_with (first | (refine dM rfl (.tmp 2) rfl rfl HF.out.h ?_) | (obtain ⟨cz, hz1, hz2⟩ := HF.out.z; refine dN rfl (.tmp 4) (.tmp 55) rfl rfl ({ (x.later N).rst 2 with ti := eC (x.later N).ti (N - x.wd.ran N), rk := (x.later N).rk.zero.tick (N - x.wd.ran N) } : Bx) bk8 _ n rfl hz1 hz2 HF.out.one ?_; intro u10 hN10 ho10; have HX := Hd (yE HF.out HM.out hN10 ho10); have HN10 := Hd hN10; clear hN10 ho10 hz1 hz2))
 exact bodyPost_ret (aIr rfl _ _ rfl HN10.out) rfl HX.out
theorem aJN (n c : Nat) (x : Bx) (bk ev : Value) (N : Int) (w : World) (M : MV w c x bk ev) (ok : x.ok n c) (hs : x.still) (n0 : 0 <= N) (n1 : N < 18446744073709551616) (hl : x.es.length < 4294967296) :
 Calls prog 34 #[.agg (ml n x bk ev).toArray, .int .u64 N] w (mS n c (x.tick N) w) := by
 by_cases h : (x.later N).wd.fa = 0
 . rw [Bx.tick_no h]
   exact aMS n c x bk ev N w M ok hs n0 n1 hl h
 . have h2 : (x.later N).wd.fa = 2 := jX hs.1 h
   rw [Bx.tick_yes h, h2]
   exact aLP n c x bk ev N w M ok hs n0 n1 hl h2
theorem i27 : (prog.info? 144).map (·.size) = some 64 := by kernel_rfl
def dQ (f g : Nat -> Bool) : List Value := bl f 32 ++ bl g 32
theorem dC (f g : Nat -> Bool) : (dQ f g).length = 64 := by unfold dQ; simp [bF]
theorem aJJ (f g : Nat -> Bool) : ∀ v ∈ dQ f g, v.oneCell' = true := by
 intro v h
 unfold dQ at h
 rcases List.mem_append.1 h with h | h
 . exact qR _ _ v h
 . exact qR _ _ v h
theorem aF6 (f g : Nat -> Bool) (i : Nat) (h : i < 32) : (dQ f g)[i]? = some (.bool (f i)) := by
 unfold dQ; rw [List.getElem?_append_left (by rw [bF]; exact h), qW _ _ _ h]
theorem aEE (f g : Nat -> Bool) (i : Nat) (h : i < 32) : (dQ f g)[32 + i]? = some (.bool (g i)) := by
 unfold dQ; rw [List.getElem?_append_right (by rw [bF]; omega), bF, show 32 + i - 32 = i by omega, qW _ _ _ h]
theorem wP (f g : Nat -> Bool) : eM (dQ f g).toArray 0 (bl f 32) := nN _ _
theorem qF (f g : Nat -> Bool) : eM (dQ f g).toArray 32 (bl g 32) := aBN _ _ 32 (bF f 32)
theorem aBB (f g h : Nat -> Bool) : bN (dQ f g).toArray 32 (bl h 32) = (dQ f h).toArray := uH _ _ _ 32 (bF f 32) (by rw [bF, bF])
section
variable {ops : Array Oper} {rest : List Oper} {o : Oper} {a : Act} {w : World} {Q : Exit -> Act -> World -> Prop}
theorem mC (hgd : o.guard = none) (x : Operand) (ho : o.op = .load 144 x) (b : Nat) (hx : a.eval x = .pointer (some ⟨b, 0, none⟩)) {t : TypeId} {fr : Nat × Nat} (f g : Nat -> Bool) (hg : w.heap[b]? = some (.cells (dQ f g).toArray t fr))
 (h : wpList prog ops Q rest (a.put o.dst (.agg (dQ f g).toArray)) w) : wpList prog ops Q (o :: rest) a w :=
 aL hgd _ x ho b 0 hx _ (dQ f g) hg underlying144 rfl (by rw [dC]; exact i27) (aM _) h
theorem jM (hgd : o.guard = none) (x y : Operand) (ho : o.op = .store 144 x y) (b : Nat) (hx : a.eval x = .pointer (some ⟨b, 0, none⟩)) (f g : Nat -> Bool) (hy : a.eval y = .agg (dQ f g).toArray) {t : TypeId} {cs : Array Value} (hg : w.heap[b]? = some (.cells cs t (0, 0))) (hl : cs.size = 64)
 (h : wpList prog ops Q rest (a.put o.dst undef) (w.setRow b (dQ f g).toArray)) : wpList prog ops Q (o :: rest) a w :=
 aH hgd _ x y ho b 0 hx (dQ f g) hy hg (by rw [dC]; exact i27) (by rw [dC]; omega) (aJJ _ _) (by rw [aV _ _ (by rw [dC]; exact hl)]; exact h)
theorem aIh {C : World -> Prop} {K : Act -> Prop} (x : Operand) (ho : o.op = .load 144 x) (b : Nat) (hx : a.eval x = .pointer (some ⟨b, 0, none⟩)) {t : TypeId} {fr : Nat × Nat} (f g : Nat -> Bool) (hg : ∀ w, C w -> w.heap[b]? = some (.cells (dQ f g).toArray t fr))
 (h : K (a.put o.dst (.agg (dQ f g).toArray))) : o.quiet prog a C K :=
 bD _ x ho b 0 hx _ (dQ f g) hg underlying144 rfl (by rw [dC]; exact i27) (aM _) h
end
theorem pU {w : World} {b : Nat} {f g : Nat -> Bool} {t : TypeId} {fr : Nat × Nat} (h : w.heap[b]? = some (.cells (dQ f g).toArray t fr)) (k : Nat) (hk : k < 32) : w.cell? ⟨b, k, none⟩ = some (.bool (f k)) := by
 rw [cell_of_row w b k _ t fr h]; simpa using aF6 f g k hk
theorem wA {w : World} {b : Nat} {f g : Nat -> Bool} {t : TypeId} {fr : Nat × Nat} (h : w.heap[b]? = some (.cells (dQ f g).toArray t fr)) (k : Nat) (hk : k < 32) : w.cell? ⟨b, 32 + k, none⟩ = some (.bool (g k)) := by
 rw [cell_of_row w b (32 + k) _ t fr h]; simpa using aEE f g k hk
abbrev tL4 : TypeId := 144
def rK (w : World) (b : Nat) (f g : Nat -> Bool) : Prop := w.heap[b]? = some (.cells (dQ f g).toArray tL4 (0, 0))
theorem rK.congr {w : World} {b : Nat} {f g f' : Nat -> Bool} (h : rK w b f g) (hf : ∀ i, i < 32 -> f i = f' i) : rK w b f' g := by
 unfold rK dQ at *
 rw [jV f' f 32 fun i hi => (hf i hi).symm]; exact h
theorem rK.lt {w : World} {b : Nat} {f g : Nat -> Bool} (h : rK w b f g) : b < w.heap.size := lt_of_block h
theorem rK.free {w : World} {b : Nat} {f g : Nat -> Bool} (h : rK w b f g) (j : Nat) : w.frozen? ⟨b, j, none⟩ = false := aN h j
theorem rK.below {w w' : World} {b : Nat} {f g : Nat -> Bool} (h : rK w b f g) (hb : Below w.heap.size w w') : rK w' b f g := aC hb h h.lt
theorem aFm (f g : Nat -> Bool) (k : Nat) (B : Bool) (hk : k < 32) : (dQ f g).toArray.setIfInBounds k (.bool B) = (dQ (fun i => if i = k then B else f i) g).toArray := by
 rw [fT]
 unfold dQ
 rw [List.set_append_left _ _ (by rw [bF]; exact hk), aBP]
theorem rK.put {w : World} {b : Nat} {f g : Nat -> Bool} (h : rK w b f g) (k : Nat) (B : Bool) (hk : k < 32) : rK (w.setCell ⟨b, k, none⟩ (.bool B)) b (fun i => if i = k then B else f i) g := by
 unfold rK
 rw [aS h, aFm f g k B hk]
theorem rK.cell {w : World} {b : Nat} {f g : Nat -> Bool} (h : rK w b f g) (k : Nat) (hk : k < 32) : w.cell? ⟨b, k, none⟩ = some (.bool (f k)) := pU h k hk
def pK : Obj := .cells (dQ (aO 0) (aO 0)).toArray tL4 (0, 0)
theorem yB : Obj.cells #[.bool false, .bool false, .bool false, .bool false, .bool false, .bool false, .bool false, .bool false, .bool false, .bool false, .bool false, .bool false, .bool false, .bool false, .bool false, .bool false, .bool false, .bool false, .bool false, .bool false, .bool false, .bool false, .bool false, .bool false, .bool false, .bool false, .bool false, .bool false, .bool false, .bool false, .bool false, .bool false, .bool false, .bool false, .bool false, .bool false, .bool false, .bool false, .bool false, .bool false, .bool false, .bool false, .bool false, .bool false, .bool false, .bool false, .bool false, .bool false, .bool false, .bool false, .bool false, .bool false, .bool false, .bool false, .bool false, .bool false, .bool false, .bool false, .bool false, .bool false, .bool false, .bool false, .bool false, .bool false] 144 (0, 0) = pK := by
 unfold pK
 rw [show dQ (aO 0) (aO 0) = dQ (fun _ => false) (fun _ => false) by unfold dQ; rw [jV (aO 0) (fun _ => false) 32 fun i _ => kP i]]
 rfl
structure oF (w0 w : World) (p r q n : Nat) (x : Bx) (bk ev : Value) (f g : Nat -> Bool) : Prop where
 h : eR w p n x bk ev
 z : rK w r (aO 0) (aO 0)
 l : rK w q f g
 lo : Below w0.heap.size w0 w
 sp : w0.heap.size <= p
 pr : p < r
 rq : r < q
section
variable {w0 w w' : World} {p r q n c : Nat} {x : Bx} {bk ev : Value} {f g : Nat -> Bool}
theorem oF.below (L : oF w0 w p r q n x bk ev f g) (hb : Below w.heap.size w w') : oF w0 w' p r q n x bk ev f g :=
 ⟨L.h.below hb, L.z.below hb, L.l.below hb, tr L.lo hb, L.sp, L.pr, L.rq⟩
theorem oF.put (L : oF w0 w p r q n x bk ev f g) (k : Nat) (B : Bool) (hk : k < 32) : oF w0 (w.setCell ⟨q, k, none⟩ (.bool B)) p r q n x bk ev (fun i => if i = k then B else f i) g := by
 have h1 := L.pr
 have h2 := L.rq
 have h3 := L.sp
 exact ⟨aW L.h _ _ _ (by omega), aW L.z _ _ _ (by omega), L.l.put k B hk, aF.toBelow L.lo (aG w q k _) (fun j hj e => by omega) (Nat.le_refl _), h3, h1, h2⟩
theorem oF.congr {f' : Nat -> Bool} (L : oF w0 w p r q n x bk ev f g) (hf : ∀ i, i < 32 -> f i = f' i) : oF w0 w p r q n x bk ev f' g := ⟨L.h, L.z, L.l.congr hf, L.lo, L.sp, L.pr, L.rq⟩
theorem oF.mask (L : oF w0 w p r q n x bk ev f g) (m : Int) : oF w0 (w.setRow q (dQ f (aO m)).toArray) p r q n x bk ev f (aO m) := by
 have h1 := L.pr
 have h2 := L.rq
 have h3 := L.sp
 exact ⟨iT q _ L.h (by omega), iT q _ L.z (by omega), aT _ L.l, aB L.lo _ (by omega), h3, h1, h2⟩
theorem aMO (w : World) (n : Nat) (x : Bx) (bk ev : Value) : oF w (((w.alloc (bR n x bk ev)).alloc pK).alloc pK) w.heap.size (w.heap.size + 1) (w.heap.size + 1 + 1) n x bk ev (aO 0) (aO 0) := by
 have hs : ((w.alloc (bR n x bk ev)).alloc pK).heap.size = w.heap.size + 1 + 1 := by simp
 have h0 := bG w (bR n x bk ev) pK
 have h1 := bL w (bR n x bk ev) pK
 refine ⟨(aX _ _ (by omega)).trans h0, (aX _ _ (by omega)).trans h1, ?_, aE (aE (aE (aI w) _) _) _, Nat.le_refl _, by omega, by omega⟩
 have := aD ((w.alloc (bR n x bk ev)).alloc pK) pK
 rw [hs] at this
 exact this
end
def fA (x : Bx) (k i : Nat) : Bool := if i < 8 then decide (i < k) && decide (x.D i <= x.ti) else if i < 24 then false else decide (i - 24 < k) && (x.S (i - 24) == 1)
def fB (n : Nat) (x : Bx) (k i : Nat) : Bool := if i < 8 then fA x n i else if i < 16 then decide (i - 8 < k) && ((x.tm (i - 8)).st && (x.tm (i - 8)).iq) else fA x n i
theorem aHh (x : Bx) (i : Nat) : aO 0 i = fA x 0 i := by
 rw [kP]
 unfold fA
 split
 . rw [decide_eq_false (by omega)]; rfl
 . split
   . rfl
   . rw [decide_eq_false (by omega)]; rfl
theorem aIH (x : Bx) (k : Nat) (hk : k < 8) (i : Nat) (hi : i < 32) : (if i = 24 + k then (x.S k == 1) else if i = k then decide (x.D k <= x.ti) else fA x k i) = fA x (k + 1) i := by
 unfold fA
 by_cases h1 : i = 24 + k
 . subst h1
   rw [if_pos rfl, if_neg (by omega), if_neg (by omega), Nat.add_sub_cancel_left, decide_eq_true (by omega), Bool.true_and]
 . rw [if_neg h1]
   by_cases h2 : i = k
   . subst h2
     rw [if_pos rfl, if_pos hk, show decide (i < i + 1) = true from decide_eq_true (by omega), Bool.true_and]
   . rw [if_neg h2]
     by_cases h3 : i < 8
     . rw [if_pos h3, if_pos h3, show decide (i < k) = decide (i < k + 1) from decide_eq_decide.2 (by omega)]
     . rw [if_neg h3, if_neg h3]
       by_cases h4 : i < 24
       . rw [if_pos h4, if_pos h4]
       . rw [if_neg h4, if_neg h4, show decide (i - 24 < k) = decide (i - 24 < k + 1) from decide_eq_decide.2 (by omega)]
theorem aHr (n : Nat) (x : Bx) (i : Nat) : fA x n i = fB n x 0 i := by
 unfold fB
 split
 . rfl
 . split
   . unfold fA
     rw [if_neg (by omega), if_pos (by omega), decide_eq_false (by omega)]; rfl
   . rfl
theorem aIZ (n : Nat) (x : Bx) (k : Nat) (hk : k < 8) (i : Nat) : (if i = 8 + k then ((x.tm k).st && (x.tm k).iq) else fB n x k i) = fB n x (k + 1) i := by
 unfold fB
 by_cases h1 : i = 8 + k
 . subst h1
   rw [if_pos rfl, if_neg (by omega), if_pos (by omega), Nat.add_sub_cancel_left, decide_eq_true (by omega), Bool.true_and]
 . rw [if_neg h1]
   by_cases h3 : i < 8
   . rw [if_pos h3, if_pos h3]
   . rw [if_neg h3, if_neg h3]
     by_cases h4 : i < 16
     . rw [if_pos h4, if_pos h4, show decide (i - 8 < k) = decide (i - 8 < k + 1) from decide_eq_decide.2 (by omega)]
     . rw [if_neg h4, if_neg h4]
theorem aLO (n c : Nat) (x : Bx) (i : Nat) (hi : i < 32) : (if i = 16 then x.rk.st else fB n x c i) = fH n c x i := by
 unfold fB fA fH
 by_cases h1 : i < 8
 . rw [if_neg (by omega), if_pos h1, if_pos h1, if_pos h1]
 . rw [if_neg h1, if_neg h1, if_neg h1]
   by_cases h2 : i < 16
   . rw [if_neg (by omega), if_pos h2, if_pos h2]
   . rw [if_neg h2, if_neg h2]
theorem aHy (t : Int) (D : Nat -> Int) (n k : Nat) (h : k < n) : yJ t n D (k : Int) = decide (D k <= t) := by
 exact vH
theorem xQ (n c : Nat) (x : Bx) (bk ev : Value) (w : World) (M : MV w c x bk ev) (ok : x.ok n c) :
 Calls prog 71 #[.agg (ml n x bk ev).toArray] w fun e w' => e = .returned (.agg (dQ (fH n c x) (aO x.msk)).toArray) /\ Below w.heap.size w w' := by
 have HOK := Hd ok
 obtain ⟨gk, capk, rfl, hrk⟩ := M.k
 have HM := Hd M
 have HR := Hd hrk
 clear M hrk ok
 go_enter func71, ntmps71
 go_upto_region 2 with (fail)
 rw [bU, yB]
 have hL := (aMO w n x (.slice (some ⟨gk, 0, none⟩) c capk) ev).congr (fun i _ => aHh x i)
 have hM := HM.out.below (aE (aE (aE (aI w) (bR n x (.slice (some ⟨gk, 0, none⟩) c capk) ev)) pK) pK)
 have HR := Hd hM.row
 clear HM
 generalize (((w.alloc (bR n x (.slice (some ⟨gk, 0, none⟩) c capk) ev)).alloc pK).alloc pK) = W at *
 generalize w.heap.size + 1 + 1 = q at *
 generalize w.heap.size + 1 = r at *
 generalize hpn : w.heap.size = p at *
 clear hM hpn
 have HG := Hd hL
 have HOD := Hd (fun v => aFx v x.ti n x.D x.S)
 have hn8 := HOK.out.n8
 have hc8 := HOK.out.c8
 clear hL
 go_upto_region 3 with (fail)
 go_loopw [4] (fun i wr => ∃ k : Nat, k <= n /\ i = .int .i64 k /\ oF w wr p r q n x (.slice (some ⟨gk, 0, none⟩) c capk) ev (fA x k) (aO 0) /\ eH wr gk c capk x.tm) (fun i _ => n - (intOf i).toNat)
 case atStart => exact ⟨0, by omega, rfl, HG.out, HR.out⟩
 case round =>
  obtain ⟨k, hk, rfl, hL, hR⟩ := hrel
  have HG := Hd hL
  have HR := Hd hR
  have cN := hL.h.cN
  clear hL hR
  by_cases hlt : k < n
  . have hk8 : k < 8 := by omega
    have cS := HG.out.h.cS k hk8
    have hidx : (0 : Int) <= (k : Int) /\ (k : Int) < 32 := by omega
    go_upto_region 6 with (first | (refine oA rfl (.tmp 14) rfl rfl HG.out.h ?_) | (go_at_call 79; refine (HOD.out (k : Int) _ hn8 HOK.out.d).mono ?_; rintro e w5 ⟨rfl, b5⟩; rw [aHy x.ti x.D n k hlt]; have HG := Hd (HG.out.below b5); have HR := Hd (HR.out.below b5); clear b5 cN cS; have cQ := HG.out.l.cell k (by omega); have fQ := HG.out.l.free k; have lQ := HG.out.l.lt))
    clear cQ fQ lQ
    have hL6 := HG.out.put k (decide (x.D k <= x.ti)) (by omega)
    have hR6 := HR.out.off (aG w5 q k (.bool (decide (x.D k <= x.ti)))) (HR.out.ne HG.out.l rfl)
    generalize w5.setCell ⟨q, k, none⟩ (.bool (decide (x.D k <= x.ti))) = w6 at *
    have HG := Hd hL6
    have HR := Hd hR6
    have cS := HG.out.h.cS k hk8
    have cQ := HG.out.l.cell (24 + k) (by omega)
    have fQ := HG.out.l.free (24 + k)
    have lQ := HG.out.l.lt
    clear hL6 hR6
    go_upto_region 4 with (fail)
    clear cQ fQ lQ cS
    have hL7 := (HG.out.put (24 + k) (x.S k == 1) (by omega)).congr (fun i hi => aIH x k hk8 i hi)
    have hR7 := HR.out.off (aG w6 q (24 + k) (.bool (x.S k == 1))) (HR.out.ne HG.out.l rfl)
    generalize w6.setCell ⟨q, 24 + k, none⟩ (.bool (x.S k == 1)) = w7 at *
    have HG := Hd hL7
    have HR := Hd hR7
    clear hL7 hR7
    go_wp2_with fail
    go_roundw
    case rel => exact ⟨k + 1, by omega, by go_num, HG.out, HR.out⟩
    case measure => simp [intOf]; omega
  . have hkn : k = n := by omega
    subst hkn
    have HG := Hd (HG.out.congr fun i _ => aHr k x i)
    go_upto_region 8 with (fail)
    go_loopw [5] (fun j wr => ∃ i : Nat, i <= c /\ j = .int .i64 i /\ oF w wr p r q k x (.slice (some ⟨gk, 0, none⟩) c capk) ev (fB k x i) (aO 0) /\ eH wr gk c capk x.tm) (fun j _ => c - (intOf j).toNat)
    case atStart => exact ⟨0, by omega, rfl, HG.out, HR.out⟩
    case round =>
     obtain ⟨i, hi, rfl, hL, hR⟩ := hrel
     have HG := Hd hL
     have HR := Hd hR
     have cB := hL.h.cB
     clear hL hR cN
     by_cases hlt : i < c
     . have hi8 : i < 8 := by omega
       have c4 := HR.out.c hlt 4 _ rfl
       have c7 := HR.out.c hlt 7 _ rfl
       have cQ := HG.out.l.cell (8 + i) (by omega)
       have fQ := HG.out.l.free (8 + i)
       have lQ := HG.out.l.lt
       have HNX := Hd (aIZ k x i hi8)
       generalize (x.tm i).st = st at *
       generalize (x.tm i).iq = iq at *
       cases st <;> cases iq
       . go_upto_region 9 with (fail)
         have hL8 := (HG.out.put (8 + i) false (by omega)).congr (fun j _ => HNX.out j)
         have hR8 := HR.out.off (aG wr q (8 + i) (.bool false)) (HR.out.ne HG.out.l rfl)
         generalize wr.setCell ⟨q, 8 + i, none⟩ (.bool false) = w8 at *
         clear cQ fQ lQ c4 c7 cB
         have HG := Hd hL8
         have HR := Hd hR8
         clear hL8 hR8
         go_wp2_with fail
         go_roundw
         case rel => exact ⟨i + 1, by omega, by go_num, HG.out, HR.out⟩
         case measure => simp [intOf]; omega
       . go_upto_region 9 with (fail)
         have hL8 := (HG.out.put (8 + i) false (by omega)).congr (fun j _ => HNX.out j)
         have hR8 := HR.out.off (aG wr q (8 + i) (.bool false)) (HR.out.ne HG.out.l rfl)
         generalize wr.setCell ⟨q, 8 + i, none⟩ (.bool false) = w8 at *
         clear cQ fQ lQ c4 c7 cB
         have HG := Hd hL8
         have HR := Hd hR8
         clear hL8 hR8
         go_wp2_with fail
         go_roundw
         case rel => exact ⟨i + 1, by omega, by go_num, HG.out, HR.out⟩
         case measure => simp [intOf]; omega
       . go_upto_region 9 with (fail)
         have hL8 := (HG.out.put (8 + i) false (by omega)).congr (fun j _ => HNX.out j)
         have hR8 := HR.out.off (aG wr q (8 + i) (.bool false)) (HR.out.ne HG.out.l rfl)
         generalize wr.setCell ⟨q, 8 + i, none⟩ (.bool false) = w8 at *
         clear cQ fQ lQ c4 c7 cB
         have HG := Hd hL8
         have HR := Hd hR8
         clear hL8 hR8
         go_wp2_with fail
         go_roundw
         case rel => exact ⟨i + 1, by omega, by go_num, HG.out, HR.out⟩
         case measure => simp [intOf]; omega
       . go_upto_region 9 with (fail)
         have hL8 := (HG.out.put (8 + i) true (by omega)).congr (fun j _ => HNX.out j)
         have hR8 := HR.out.off (aG wr q (8 + i) (.bool true)) (HR.out.ne HG.out.l rfl)
         generalize wr.setCell ⟨q, 8 + i, none⟩ (.bool true) = w8 at *
         clear cQ fQ lQ c4 c7 cB
         have HG := Hd hL8
         have HR := Hd hR8
         clear hL8 hR8
         go_wp2_with fail
         go_roundw
         case rel => exact ⟨i + 1, by omega, by go_num, HG.out, HR.out⟩
         case measure => simp [intOf]; omega
     . have hic : i = c := by omega
       subst hic
       have cR := HG.out.h.cR
       have cQ := HG.out.l.cell 16 (by omega)
       have fQ := HG.out.l.free 16
       have lQ := HG.out.l.lt
       go_upto_region 12 with (fail)
       clear cQ fQ lQ cR cB
       have hL9 := (HG.out.put 16 x.rk.st (by omega)).congr (fun j hj => aLO k i x j hj)
       generalize wr.setCell ⟨q, 16, none⟩ (.bool x.rk.st) = w9 at *
       have HG := Hd hL9
       clear hL9 HR
       go_wp2_with (first | (refine aL7 rfl (.tmp 60) rfl rfl HG.out.h ?_) | (refine rV rfl (.tmp 62) (.tmp 61) rfl _ _ rfl (aO x.msk) rfl HG.out.l (by simp [dC]) ?_; rw [aBB]; have HG2 := Hd (HG.out.mask x.msk); generalize w9.setRow q (dQ (fH k i x) (aO x.msk)).toArray = w10 at *) | (refine mC rfl (.tmp 3) rfl _ rfl _ _ HG2.out.l ?_) | (refine jM rfl (.tmp 2) (.tmp 63) rfl _ rfl _ _ rfl HG2.out.z (by simp [dC]) ?_))
       refine bodyPost_ret (v := .agg (dQ (fH k i x) (aO x.msk)).toArray) ?_ rfl ⟨rfl, aB HG2.out.lo _ (by have := HG2.out.sp; have := HG2.out.pr; omega)⟩
       exact aU results71 _ _ r 0 _ (dQ (fH k i x) (aO x.msk)) rfl (aT _ HG2.out.z) underlying144 rfl (by rw [dC]; exact i27) (aM _)
end Go.Proofs.YtpojmmgokgamgaaGreat.B
