/- A part of the proof of a law of layer 12: bl. -/
import Derived.Test.YtaohacadochldaaGreatZCbk
set_option linter.unusedVariables false
set_option linter.unusedSimpArgs false
set_option maxHeartbeats 12800000
set_option maxRecDepth 100000
namespace Go.Proofs.YtaohacadochldaaGreat.B
open Go.Proofs.Tryz
open Go.ChangeShapes Go.WideShapes Go.RowKit Go.Sort
theorem qL {n c : Nat} {x Y : Bx} {a v : Int} (e : x.put n c a v = Y) (hf : Y.wd.fa = 0) (hq : Y.rs.qs = false) : x.sto n c a v = Y := by
 have hd : Y.due = 0 := by simp [Bx.due, hq, hf]
 unfold Bx.sto
 rw [e]
 unfold Bx.look
 rw [if_pos hd]
theorem aO6 {n c : Nat} {x Y : Bx} {a v : Int} (e : x.put n c a v = Y) (hf : Y.wd.fa ≠ 0) (hq : Y.rs.qs = false) : x.sto n c a v = Y.rst Y.wd.fa := by
 have hd : Y.due = Y.wd.fa := by simp [Bx.due, hq]
 unfold Bx.sto
 rw [e]
 unfold Bx.look
 rw [if_neg (by rw [hd]; exact hf), hd]
theorem aO7 {n c : Nat} {x Y : Bx} {a v : Int} (e : x.put n c a v = Y) (hq : Y.rs.qs = true) : x.sto n c a v = Y.rst 16 := by
 have hd : Y.due = 16 := by simp [Bx.due, hq]
 unfold Bx.sto
 rw [e]
 unfold Bx.look
 rw [if_neg (by rw [hd]; decide), hd]
theorem fT {w0 w w' : World} {b r n c : Nat} {y z : Bx} {bk ev : Value} (F : Fr w0 w b r n y bk ev) (M : MV w c z bk ev) (h : eY w' r n y bk ev) (ho : aF (· = r) w w') : MV w' c z bk ev /\ Below w0.heap.size w0 w' := by
 obtain ⟨cs, h1, h2⟩ := F.z
 have M2 : MV w' c z bk ev := by
  exact xA
 exact ⟨M2, aF.toBelow F.lo ho (fun k hk e => by have := F.hr; omega) (Nat.le_refl _)⟩
def jO (n c : Nat) (z : Bx) (er : Int) (w : World) (e : Ending) (w' : World) : Prop := ∃ bk ev, e = .returned (.tuple #[.agg (ml n z bk ev).toArray, .int .i64 er]) /\ MV w' c z bk ev /\ Below w.heap.size w w'
theorem aDn {w w' : World} {b c : Nat} {x : Bx} {bk ev : Value} {f g : Nat -> Bool} (M : MV w c x bk ev) (ho : aF (· = b) w w') (h : sI w b f g) : MV w' c x bk ev := by
 exact vX
theorem MV.like {w : World} {c : Nat} {x : Bx} {bk ev : Value} (M : MV w c x bk ev) (y : Bx) (h1 : y.tm = x.tm := by rfl) (h2 : y.es = x.es := by rfl) : MV w c y bk ev := ⟨by rw [h1]; exact M.k, by rw [h2]; exact M.e⟩
theorem eO {P : Prop} (h : P := by
 exact bodyPost_ret (aOt rfl _ _ _ rfl rfl HN10.out) rfl ⟨_, _, rfl, HX.out.1, HX.out.2⟩
 ) : P := h
theorem aNF (n c : Nat) (x : Bx) (bk ev : Value) (a v : Int) (w : World) (M : MV w c x bk ev) (ok : x.ok n c) (hs : x.still) (a0 : 0 <= a) (a1 : a < 4294967296) (v0 : 0 <= v) (v1 : v < 4294967296) (hl : x.es.length < 4294967296) (h4 : a % 4 ≠ 0) : Calls prog 70 #[.agg (ml n x bk ev).toArray, .int .u32 a, .int .u32 v] w (jO n c (x) (11) w) := by
 have one := M.one
 have hfr := iH w n x bk ev one
 have hM0 := M.below (aE (aE (aH w) (bV n x bk ev)) fN)
 obtain ⟨gk, capk, rfl, hrk⟩ := M.k
 have HOK := Hd ok
 have HST := Hd hs
 have HLN := Hd hl
 have HA := Hd (show 0 <= a /\ a < 4294967296 from ⟨a0, a1⟩)
 clear hrk ok hl hs
 have q4 : (a % 4 != 0) = true := by simpa using h4
 clear h4
 go_enter func70, ntmps70
 go_upto_region 1 with (fail)
 rw [cI, eL]
 generalize ((w.alloc (bV n x (.slice (some ⟨gk, 0, none⟩) c capk) ev)).alloc fN) = W at *
 generalize w.heap.size + 1 = r at *
 generalize hbn : w.heap.size = b at *
 have HF := Hd hfr
 have HM := Hd hM0
 clear hfr hM0 M one hbn
 go_wp2_with (first | (refine dU rfl (.tmp 3) rfl rfl HF.out.h ?_) | (obtain ⟨cz, hz1, hz2⟩ := HF.out.z; refine dX rfl (.tmp 6) (.tmp 16) rfl rfl x (.slice (some ⟨gk, 0, none⟩) c capk) _ n rfl hz1 hz2 HF.out.one ?_; intro u10 hN10 ho10; have HX := Hd (fT HF.out HM.out hN10 ho10); have HN10 := Hd hN10; clear hN10 ho10 hz1 hz2))
 exact eO
theorem aPD (n c : Nat) (x : Bx) (bk ev : Value) (a v : Int) (w : World) (M : MV w c x bk ev) (ok : x.ok n c) (hs : x.still) (a0 : 0 <= a) (a1 : a < 4294967296) (v0 : 0 <= v) (v1 : v < 4294967296) (hl : x.es.length < 4294967296) (h4 : a % 4 = 0) (e : wh a = .no) : Calls prog 70 #[.agg (ml n x bk ev).toArray, .int .u32 a, .int .u32 v] w (jO n c (x) (10) w) := by
 have HFI := Hd (show fI a = (0, 0, false) by unfold fI; rw [e])
 have one := M.one
 have hfr := iH w n x bk ev one
 have hM0 := M.below (aE (aE (aH w) (bV n x bk ev)) fN)
 obtain ⟨gk, capk, rfl, hrk⟩ := M.k
 have HOK := Hd ok
 have HST := Hd hs
 have HLN := Hd hl
 have HA := Hd (show 0 <= a /\ a < 4294967296 from ⟨a0, a1⟩)
 clear hrk ok hl hs
 have H4 := Hd h4
 go_enter func70, ntmps70
 go_upto_region 1 with (fail)
 rw [cI, eL]
 generalize ((w.alloc (bV n x (.slice (some ⟨gk, 0, none⟩) c capk) ev)).alloc fN) = W at *
 generalize w.heap.size + 1 = r at *
 generalize hbn : w.heap.size = b at *
 have HF := Hd hfr
 have HM := Hd hM0
 clear hfr hM0 M one hbn
 go_upto_region 5 with (go_at_call 121; refine (jL a _ HA.out.1 HA.out.2 H4.out).mono ?_; rw [HFI.out]; rintro e w1 ⟨rfl, b1⟩; have HF := Hd (HF.out.below b1); have HM := Hd (HM.out.below b1); clear b1)
 go_wp2_with (first | (refine dU rfl (.tmp 3) rfl rfl HF.out.h ?_) | (obtain ⟨cz, hz1, hz2⟩ := HF.out.z; refine dX rfl (.tmp 6) (.tmp 25) rfl rfl x (.slice (some ⟨gk, 0, none⟩) c capk) _ n rfl hz1 hz2 HF.out.one ?_; intro u10 hN10 ho10; have HX := Hd (fT HF.out HM.out hN10 ho10); have HN10 := Hd hN10; clear hN10 ho10 hz1 hz2))
 exact eO
theorem aJq (n c : Nat) (x : Bx) (bk ev : Value) (a v : Int) (w : World) (M : MV w c x bk ev) (ok : x.ok n c) (hs : x.still) (a0 : 0 <= a) (a1 : a < 4294967296) (v0 : 0 <= v) (v1 : v < 4294967296) (hl : x.es.length < 4294967296) (h4 : a % 4 = 0) (g0 : 33554432 <= a) (g1 : a < 33603584) (e : wh a = .cl (a - 33554432)) (hok : (({ x with D := eT n x.D (a - 33554432) v, S := eU n x.S (a - 33554432) v } : Bx)).ok n c) (hfa : (({ x with D := eT n x.D (a - 33554432) v, S := eU n x.S (a - 33554432) v } : Bx)).wd.fa = 0) (hqs : (({ x with D := eT n x.D (a - 33554432) v, S := eU n x.S (a - 33554432) v } : Bx)).rs.qs = false) : Calls prog 70 #[.agg (ml n x bk ev).toArray, .int .u32 a, .int .u32 v] w (jO n c (({ x with D := eT n x.D (a - 33554432) v, S := eU n x.S (a - 33554432) v } : Bx)) (eP n (a - 33554432)) w) := by
 have HFI := Hd (show fI a = (0, a - 33554432, true) by unfold fI; rw [e])
 have O0 : 0 <= a - 33554432 := by omega
 have O1 : a - 33554432 < 4294967296 := by omega
 have HFA := Hd hfa
 have HQS := Hd hqs
 have HYK := Hd hok
 clear hfa hqs hok
 have one := M.one
 have hfr := iH w n x bk ev one
 have hM0 := M.below (aE (aE (aH w) (bV n x bk ev)) fN)
 obtain ⟨gk, capk, rfl, hrk⟩ := M.k
 have HOK := Hd ok
 have HST := Hd hs
 have HLN := Hd hl
 have HA := Hd (show 0 <= a /\ a < 4294967296 from ⟨a0, a1⟩)
 clear hrk ok hl hs
 have H4 := Hd h4
 go_enter func70, ntmps70
 go_upto_region 1 with (fail)
 rw [cI, eL]
 generalize ((w.alloc (bV n x (.slice (some ⟨gk, 0, none⟩) c capk) ev)).alloc fN) = W at *
 generalize w.heap.size + 1 = r at *
 generalize hbn : w.heap.size = b at *
 have HF := Hd hfr
 have HM := Hd hM0
 clear hfr hM0 M one hbn
 go_upto_region 22 with (first | (go_at_call 121; refine (jL a _ HA.out.1 HA.out.2 H4.out).mono ?_; rw [HFI.out]; rintro e w1 ⟨rfl, b1⟩; have HF := Hd (HF.out.below b1); have HM := Hd (HM.out.below b1); clear b1) | (refine pH rfl (.tmp 30) rfl rfl HF.out.h ?_) | (go_at_call 122; refine (aI8 (a - 33554432) v x.ti n x.D x.S _ HOK.out.n8 HOK.out.d HOK.out.t0 HOK.out.t1 O0 O1 v0 v1).mono ?_; rintro e w3 ⟨rfl, b1⟩; have HF := Hd (HF.out.below b1); have HM := Hd (HM.out.below b1); clear b1) | (refine qB rfl (.tmp 37) (.tmp 35) rfl rfl x.ti (eT n x.D (a - 33554432) v) (eU n x.S (a - 33554432) v) rfl HF.out ?_; intro w4 hF2 ho2; have HM := Hd (eB HM.out ho2 HF.out.h); have HF := Hd hF2; clear hF2 ho2))
 have HF := Hd (HF.out.like ({ x with D := eT n x.D (a - 33554432) v, S := eU n x.S (a - 33554432) v } : Bx))
 have HM := Hd (HM.out.like ({ x with D := eT n x.D (a - 33554432) v, S := eU n x.S (a - 33554432) v } : Bx))
 have cF := HF.out.h.cF
 have cQ := HF.out.h.cQ
 rw [HFA.out] at cF
 rw [HQS.out] at cQ
 go_wp2_with (first | (refine dU rfl (.tmp 3) rfl rfl HF.out.h ?_) | (obtain ⟨cz, hz1, hz2⟩ := HF.out.z; refine dX rfl (.tmp 6) (.tmp 110) rfl rfl ({ x with D := eT n x.D (a - 33554432) v, S := eU n x.S (a - 33554432) v } : Bx) (.slice (some ⟨gk, 0, none⟩) c capk) _ n rfl hz1 hz2 HF.out.one ?_; intro u10 hN10 ho10; have HX := Hd (fT HF.out HM.out hN10 ho10); have HN10 := Hd hN10; clear hN10 ho10 hz1 hz2))
 exact eO
theorem aJp (n c : Nat) (x : Bx) (bk ev : Value) (a v : Int) (w : World) (M : MV w c x bk ev) (ok : x.ok n c) (hs : x.still) (a0 : 0 <= a) (a1 : a < 4294967296) (v0 : 0 <= v) (v1 : v < 4294967296) (hl : x.es.length < 4294967296) (h4 : a % 4 = 0) (g0 : 268500992 <= a) (g1 : a < 268501248) (e : wh a = .bk (a - 268500992)) (hok : (({ x with tm := kL c x.tm (a - 268500992) v } : Bx)).ok n c) (hfa : (({ x with tm := kL c x.tm (a - 268500992) v } : Bx)).wd.fa = 0) (hqs : (({ x with tm := kL c x.tm (a - 268500992) v } : Bx)).rs.qs = false) : Calls prog 70 #[.agg (ml n x bk ev).toArray, .int .u32 a, .int .u32 v] w (jO n c (({ x with tm := kL c x.tm (a - 268500992) v } : Bx)) (mE c (a - 268500992)) w) := by
 have HFI := Hd (show fI a = (1, a - 268500992, true) by unfold fI; rw [e])
 have O0 : 0 <= a - 268500992 := by omega
 have O1 : a - 268500992 < 4294967296 := by omega
 have HFA := Hd hfa
 have HQS := Hd hqs
 have HYK := Hd hok
 clear hfa hqs hok
 have one := M.one
 have hfr := iH w n x bk ev one
 have hM0 := M.below (aE (aE (aH w) (bV n x bk ev)) fN)
 obtain ⟨gk, capk, rfl, hrk⟩ := M.k
 have HOK := Hd ok
 have HST := Hd hs
 have HLN := Hd hl
 have HA := Hd (show 0 <= a /\ a < 4294967296 from ⟨a0, a1⟩)
 clear hrk ok hl hs
 have H4 := Hd h4
 go_enter func70, ntmps70
 go_upto_region 1 with (fail)
 rw [cI, eL]
 generalize ((w.alloc (bV n x (.slice (some ⟨gk, 0, none⟩) c capk) ev)).alloc fN) = W at *
 generalize w.heap.size + 1 = r at *
 generalize hbn : w.heap.size = b at *
 have HF := Hd hfr
 have HM := Hd hM0
 clear hfr hM0 M one hbn
 go_upto_region 11 with (go_at_call 121; refine (jL a _ HA.out.1 HA.out.2 H4.out).mono ?_; rw [HFI.out]; rintro e w1 ⟨rfl, b1⟩; have HF := Hd (HF.out.below b1); have HM := Hd (HM.out.below b1); clear b1)
 have cB := HF.out.h.cB
 go_upto_region 22 with (go_at_call 123; refine (aLo HM.out.row (fun i hi => HOK.out.tm i hi) HOK.out.c0 HOK.out.c8 (a - 268500992) v O0 O1 v0 v1).mono ?_; rintro e w6 ⟨g6, cap6, rfl, hr6, b6, hg6⟩; have HR := Hd hr6; have HF := Hd (HF.out.below b6); have HM := Hd (HM.out.below b6); clear cB hr6 b6 hg6; have cB := HF.out.h.cB; have fB := HF.out.h.free 26; have lB := HF.out.h.lt)
 clear cB fB lB
 have hso := aG w6 b 26 (.slice (some ⟨g6, 0, none⟩) c cap6)
 have hF7 := HF.out.turn (HF.out.h.setB (.slice (some ⟨g6, 0, none⟩) c cap6)) hso ⟨rfl, HF.out.one.2⟩
 have hM7 : MV (w6.setCell ⟨b, 26, none⟩ (.slice (some ⟨g6, 0, none⟩) c cap6)) c ({ x with tm := kL c x.tm (a - 268500992) v } : Bx) (.slice (some ⟨g6, 0, none⟩) c cap6) ev := ⟨⟨g6, cap6, rfl, HR.out.off hso (HR.out.ne HF.out.h rfl)⟩, pC HM.out.e hso HF.out.h⟩
 generalize w6.setCell ⟨b, 26, none⟩ (.slice (some ⟨g6, 0, none⟩) c cap6) = w7 at *
 have HF := Hd hF7
 have HM := Hd hM7
 clear hso hF7 hM7 HR
 have HF := Hd (HF.out.like ({ x with tm := kL c x.tm (a - 268500992) v } : Bx))
 have HM := Hd (HM.out.like ({ x with tm := kL c x.tm (a - 268500992) v } : Bx))
 have cF := HF.out.h.cF
 have cQ := HF.out.h.cQ
 rw [HFA.out] at cF
 rw [HQS.out] at cQ
 go_wp2_with (first | (refine dU rfl (.tmp 3) rfl rfl HF.out.h ?_) | (obtain ⟨cz, hz1, hz2⟩ := HF.out.z; refine dX rfl (.tmp 6) (.tmp 110) rfl rfl ({ x with tm := kL c x.tm (a - 268500992) v } : Bx) (.slice (some ⟨g6, 0, none⟩) c cap6) _ n rfl hz1 hz2 HF.out.one ?_; intro u10 hN10 ho10; have HX := Hd (fT HF.out HM.out hN10 ho10); have HN10 := Hd hN10; clear hN10 ho10 hz1 hz2))
 exact eO
theorem aJr (n c : Nat) (x : Bx) (bk ev : Value) (a v : Int) (w : World) (M : MV w c x bk ev) (ok : x.ok n c) (hs : x.still) (a0 : 0 <= a) (a1 : a < 4294967296) (v0 : 0 <= v) (v1 : v < 4294967296) (hl : x.es.length < 4294967296) (h4 : a % 4 = 0) (g0 : 268566528 <= a) (g1 : a < 268566548) (e : wh a = .dg (a - 268566528)) (hok : (({ x with wd := x.wd.sto (a - 268566528) v } : Bx)).ok n c) (hfa : (({ x with wd := x.wd.sto (a - 268566528) v } : Bx)).wd.fa = 0) (hqs : (({ x with wd := x.wd.sto (a - 268566528) v } : Bx)).rs.qs = false) : Calls prog 70 #[.agg (ml n x bk ev).toArray, .int .u32 a, .int .u32 v] w (jO n c (({ x with wd := x.wd.sto (a - 268566528) v } : Bx)) (kQ (a - 268566528)) w) := by
 have HFI := Hd (show fI a = (2, a - 268566528, true) by unfold fI; rw [e])
 have O0 : 0 <= a - 268566528 := by omega
 have O1 : a - 268566528 < 4294967296 := by omega
 have HFA := Hd hfa
 have HQS := Hd hqs
 have HYK := Hd hok
 clear hfa hqs hok
 have one := M.one
 have hfr := iH w n x bk ev one
 have hM0 := M.below (aE (aE (aH w) (bV n x bk ev)) fN)
 obtain ⟨gk, capk, rfl, hrk⟩ := M.k
 have HOK := Hd ok
 have HST := Hd hs
 have HLN := Hd hl
 have HA := Hd (show 0 <= a /\ a < 4294967296 from ⟨a0, a1⟩)
 clear hrk ok hl hs
 have H4 := Hd h4
 go_enter func70, ntmps70
 go_upto_region 1 with (fail)
 rw [cI, eL]
 generalize ((w.alloc (bV n x (.slice (some ⟨gk, 0, none⟩) c capk) ev)).alloc fN) = W at *
 generalize w.heap.size + 1 = r at *
 generalize hbn : w.heap.size = b at *
 have HF := Hd hfr
 have HM := Hd hM0
 clear hfr hM0 M one hbn
 go_upto_region 22 with (first | (go_at_call 121; refine (jL a _ HA.out.1 HA.out.2 H4.out).mono ?_; rw [HFI.out]; rintro e w1 ⟨rfl, b1⟩; have HF := Hd (HF.out.below b1); have HM := Hd (HM.out.below b1); clear b1) | (refine uP rfl (.tmp 52) rfl rfl HF.out.h ?_) | (go_at_call 124; refine (aHt x.wd (a - 268566528) v _ HOK.out.wd O0 O1 v0 v1).mono ?_; rintro e w3 ⟨rfl, b1⟩; have HF := Hd (HF.out.below b1); have HM := Hd (HM.out.below b1); clear b1) | (refine qD rfl (.tmp 59) (.tmp 57) rfl rfl (x.wd.sto (a - 268566528) v) rfl HF.out ?_; intro w4 hF2 ho2; have HM := Hd (eB HM.out ho2 HF.out.h); have HF := Hd hF2; clear hF2 ho2))
 have HF := Hd (HF.out.like ({ x with wd := x.wd.sto (a - 268566528) v } : Bx))
 have HM := Hd (HM.out.like ({ x with wd := x.wd.sto (a - 268566528) v } : Bx))
 have cF := HF.out.h.cF
 have cQ := HF.out.h.cQ
 rw [HFA.out] at cF
 rw [HQS.out] at cQ
 go_wp2_with (first | (refine dU rfl (.tmp 3) rfl rfl HF.out.h ?_) | (obtain ⟨cz, hz1, hz2⟩ := HF.out.z; refine dX rfl (.tmp 6) (.tmp 110) rfl rfl ({ x with wd := x.wd.sto (a - 268566528) v } : Bx) (.slice (some ⟨gk, 0, none⟩) c capk) _ n rfl hz1 hz2 HF.out.one ?_; intro u10 hN10 ho10; have HX := Hd (fT HF.out HM.out hN10 ho10); have HN10 := Hd hN10; clear hN10 ho10 hz1 hz2))
 exact eO
theorem aJs (n c : Nat) (x : Bx) (bk ev : Value) (a v : Int) (w : World) (M : MV w c x bk ev) (ok : x.ok n c) (hs : x.still) (a0 : 0 <= a) (a1 : a < 4294967296) (v0 : 0 <= v) (v1 : v < 4294967296) (hl : x.es.length < 4294967296) (h4 : a % 4 = 0) (g0 : 268566528 <= a) (g1 : a < 268566548) (e : wh a = .dg (a - 268566528)) (hok : (({ x with wd := x.wd.sto (a - 268566528) v } : Bx)).ok n c) (hfa : (({ x with wd := x.wd.sto (a - 268566528) v } : Bx)).wd.fa ≠ 0) (hqs : (({ x with wd := x.wd.sto (a - 268566528) v } : Bx)).rs.qs = false) (hq2 : ((({ x with wd := x.wd.sto (a - 268566528) v } : Bx)).rst (({ x with wd := x.wd.sto (a - 268566528) v } : Bx)).wd.fa).rs.qs = false) : Calls prog 70 #[.agg (ml n x bk ev).toArray, .int .u32 a, .int .u32 v] w (jO n c ((({ x with wd := x.wd.sto (a - 268566528) v } : Bx)).rst (({ x with wd := x.wd.sto (a - 268566528) v } : Bx)).wd.fa) (kQ (a - 268566528)) w) := by
 have HFI := Hd (show fI a = (2, a - 268566528, true) by unfold fI; rw [e])
 have O0 : 0 <= a - 268566528 := by omega
 have O1 : a - 268566528 < 4294967296 := by omega
 have HFA := Hd hfa
 have HQS := Hd hqs
 have HYK := Hd hok
 clear hfa hqs hok
 have HQ2 := Hd hq2
 clear hq2
 have one := M.one
 have hfr := iH w n x bk ev one
 have hM0 := M.below (aE (aE (aH w) (bV n x bk ev)) fN)
 obtain ⟨gk, capk, rfl, hrk⟩ := M.k
 have HOK := Hd ok
 have HST := Hd hs
 have HLN := Hd hl
 have HA := Hd (show 0 <= a /\ a < 4294967296 from ⟨a0, a1⟩)
 clear hrk ok hl hs
 have H4 := Hd h4
 go_enter func70, ntmps70
 go_upto_region 1 with (fail)
 rw [cI, eL]
 generalize ((w.alloc (bV n x (.slice (some ⟨gk, 0, none⟩) c capk) ev)).alloc fN) = W at *
 generalize w.heap.size + 1 = r at *
 generalize hbn : w.heap.size = b at *
 have HF := Hd hfr
 have HM := Hd hM0
 clear hfr hM0 M one hbn
 go_upto_region 22 with (first | (go_at_call 121; refine (jL a _ HA.out.1 HA.out.2 H4.out).mono ?_; rw [HFI.out]; rintro e w1 ⟨rfl, b1⟩; have HF := Hd (HF.out.below b1); have HM := Hd (HM.out.below b1); clear b1) | (refine uP rfl (.tmp 52) rfl rfl HF.out.h ?_) | (go_at_call 124; refine (aHt x.wd (a - 268566528) v _ HOK.out.wd O0 O1 v0 v1).mono ?_; rintro e w3 ⟨rfl, b1⟩; have HF := Hd (HF.out.below b1); have HM := Hd (HM.out.below b1); clear b1) | (refine qD rfl (.tmp 59) (.tmp 57) rfl rfl (x.wd.sto (a - 268566528) v) rfl HF.out ?_; intro w4 hF2 ho2; have HM := Hd (eB HM.out ho2 HF.out.h); have HF := Hd hF2; clear hF2 ho2))
 have HF := Hd (HF.out.like ({ x with wd := x.wd.sto (a - 268566528) v } : Bx))
 have HM := Hd (HM.out.like ({ x with wd := x.wd.sto (a - 268566528) v } : Bx))
 have cF := HF.out.h.cF
 have cQ := HF.out.h.cQ
 rw [HQS.out] at cQ
 have hfn : ((({ x with wd := x.wd.sto (a - 268566528) v } : Bx)).wd.fa != 0) = true := by simpa using HFA.out
 generalize hfa : (({ x with wd := x.wd.sto (a - 268566528) v } : Bx)).wd.fa = fa at *
 have HFE := Hd hfa
 clear hfa
 go_upto_region 24 with (first | (refine dU rfl (.tmp 3) rfl rfl HF.out.h ?_) | (go_at_call 80; refine (aCl n c ({ x with wd := x.wd.sto (a - 268566528) v } : Bx) _ _ fa _ HM.out HYK.out HLN.out).mono ?_; rintro e w10 ⟨bk8, ev8, rfl, M8, b8⟩; have HF := Hd (HF.out.below b8); have HM := Hd M8; clear M8 b8 cF cQ) | (refine dX rfl (.tmp 3) (.tmp 104) rfl rfl ((({ x with wd := x.wd.sto (a - 268566528) v } : Bx)).rst fa) bk8 ev8 n rfl HF.out.h (by rw [List.size_toArray, cO]) HM.out.one ?_; intro w11 hN9 ho9; have HM := Hd (eB HM.out ho9 HF.out.h); have HF := Hd (HF.out.turn hN9 ho9 HM.out.one); clear hN9 ho9))
 have cQ := HF.out.h.cQ
 rw [HQ2.out] at cQ
 go_wp2_with (first | (refine dU rfl (.tmp 3) rfl rfl HF.out.h ?_) | (obtain ⟨cz, hz1, hz2⟩ := HF.out.z; refine dX rfl (.tmp 6) (.tmp 110) rfl rfl ((({ x with wd := x.wd.sto (a - 268566528) v } : Bx)).rst fa) bk8 _ n rfl hz1 hz2 HF.out.one ?_; intro u10 hN10 ho10; have HX := Hd (fT HF.out HM.out hN10 ho10); have HN10 := Hd hN10; clear hN10 ho10 hz1 hz2))
 exact eO
theorem aJw (n c : Nat) (x : Bx) (bk ev : Value) (a v : Int) (w : World) (M : MV w c x bk ev) (ok : x.ok n c) (hs : x.still) (a0 : 0 <= a) (a1 : a < 4294967296) (v0 : 0 <= v) (v1 : v < 4294967296) (hl : x.es.length < 4294967296) (h4 : a % 4 = 0) (g0 : 268632064 <= a) (g1 : a < 268632080) (e : wh a = .rs (a - 268632064)) (hok : (({ x with rs := x.rs.sto (a - 268632064) v } : Bx)).ok n c) (hfa : (({ x with rs := x.rs.sto (a - 268632064) v } : Bx)).wd.fa = 0) (hqs : (({ x with rs := x.rs.sto (a - 268632064) v } : Bx)).rs.qs = false) : Calls prog 70 #[.agg (ml n x bk ev).toArray, .int .u32 a, .int .u32 v] w (jO n c (({ x with rs := x.rs.sto (a - 268632064) v } : Bx)) (kP (a - 268632064)) w) := by
 have HFI := Hd (show fI a = (3, a - 268632064, true) by unfold fI; rw [e])
 have O0 : 0 <= a - 268632064 := by omega
 have O1 : a - 268632064 < 4294967296 := by omega
 have HFA := Hd hfa
 have HQS := Hd hqs
 have HYK := Hd hok
 clear hfa hqs hok
 have one := M.one
 have hfr := iH w n x bk ev one
 have hM0 := M.below (aE (aE (aH w) (bV n x bk ev)) fN)
 obtain ⟨gk, capk, rfl, hrk⟩ := M.k
 have HOK := Hd ok
 have HST := Hd hs
 have HLN := Hd hl
 have HA := Hd (show 0 <= a /\ a < 4294967296 from ⟨a0, a1⟩)
 clear hrk ok hl hs
 have H4 := Hd h4
 go_enter func70, ntmps70
 go_upto_region 1 with (fail)
 rw [cI, eL]
 generalize ((w.alloc (bV n x (.slice (some ⟨gk, 0, none⟩) c capk) ev)).alloc fN) = W at *
 generalize w.heap.size + 1 = r at *
 generalize hbn : w.heap.size = b at *
 have HF := Hd hfr
 have HM := Hd hM0
 clear hfr hM0 M one hbn
 go_upto_region 22 with (first | (go_at_call 121; refine (jL a _ HA.out.1 HA.out.2 H4.out).mono ?_; rw [HFI.out]; rintro e w1 ⟨rfl, b1⟩; have HF := Hd (HF.out.below b1); have HM := Hd (HM.out.below b1); clear b1) | (refine aAH rfl (.tmp 63) rfl rfl HF.out.h ?_) | (go_at_call 125; refine (aD6 x.rs (a - 268632064) v _ HOK.out.rs O0 O1 v0 v1).mono ?_; rintro e w3 ⟨rfl, b1⟩; have HF := Hd (HF.out.below b1); have HM := Hd (HM.out.below b1); clear b1) | (refine aAJ rfl (.tmp 70) (.tmp 68) rfl rfl (x.rs.sto (a - 268632064) v) rfl HF.out ?_; intro w4 hF2 ho2; have HM := Hd (eB HM.out ho2 HF.out.h); have HF := Hd hF2; clear hF2 ho2))
 have HF := Hd (HF.out.like ({ x with rs := x.rs.sto (a - 268632064) v } : Bx))
 have HM := Hd (HM.out.like ({ x with rs := x.rs.sto (a - 268632064) v } : Bx))
 have cF := HF.out.h.cF
 have cQ := HF.out.h.cQ
 rw [HFA.out] at cF
 rw [HQS.out] at cQ
 go_wp2_with (first | (refine dU rfl (.tmp 3) rfl rfl HF.out.h ?_) | (obtain ⟨cz, hz1, hz2⟩ := HF.out.z; refine dX rfl (.tmp 6) (.tmp 110) rfl rfl ({ x with rs := x.rs.sto (a - 268632064) v } : Bx) (.slice (some ⟨gk, 0, none⟩) c capk) _ n rfl hz1 hz2 HF.out.one ?_; intro u10 hN10 ho10; have HX := Hd (fT HF.out HM.out hN10 ho10); have HN10 := Hd hN10; clear hN10 ho10 hz1 hz2))
 exact eO
theorem aJx (n c : Nat) (x : Bx) (bk ev : Value) (a v : Int) (w : World) (M : MV w c x bk ev) (ok : x.ok n c) (hs : x.still) (a0 : 0 <= a) (a1 : a < 4294967296) (v0 : 0 <= v) (v1 : v < 4294967296) (hl : x.es.length < 4294967296) (h4 : a % 4 = 0) (g0 : 268632064 <= a) (g1 : a < 268632080) (e : wh a = .rs (a - 268632064)) (hok : (({ x with rs := x.rs.sto (a - 268632064) v } : Bx)).ok n c) (hfa : (({ x with rs := x.rs.sto (a - 268632064) v } : Bx)).wd.fa = 0) (hqs : (({ x with rs := x.rs.sto (a - 268632064) v } : Bx)).rs.qs = true) : Calls prog 70 #[.agg (ml n x bk ev).toArray, .int .u32 a, .int .u32 v] w (jO n c ((({ x with rs := x.rs.sto (a - 268632064) v } : Bx)).rst 16) (kP (a - 268632064)) w) := by
 have HFI := Hd (show fI a = (3, a - 268632064, true) by unfold fI; rw [e])
 have O0 : 0 <= a - 268632064 := by omega
 have O1 : a - 268632064 < 4294967296 := by omega
 have HFA := Hd hfa
 have HQS := Hd hqs
 have HYK := Hd hok
 clear hfa hqs hok
 have one := M.one
 have hfr := iH w n x bk ev one
 have hM0 := M.below (aE (aE (aH w) (bV n x bk ev)) fN)
 obtain ⟨gk, capk, rfl, hrk⟩ := M.k
 have HOK := Hd ok
 have HST := Hd hs
 have HLN := Hd hl
 have HA := Hd (show 0 <= a /\ a < 4294967296 from ⟨a0, a1⟩)
 clear hrk ok hl hs
 have H4 := Hd h4
 go_enter func70, ntmps70
 go_upto_region 1 with (fail)
 rw [cI, eL]
 generalize ((w.alloc (bV n x (.slice (some ⟨gk, 0, none⟩) c capk) ev)).alloc fN) = W at *
 generalize w.heap.size + 1 = r at *
 generalize hbn : w.heap.size = b at *
 have HF := Hd hfr
 have HM := Hd hM0
 clear hfr hM0 M one hbn
 go_upto_region 22 with (first | (go_at_call 121; refine (jL a _ HA.out.1 HA.out.2 H4.out).mono ?_; rw [HFI.out]; rintro e w1 ⟨rfl, b1⟩; have HF := Hd (HF.out.below b1); have HM := Hd (HM.out.below b1); clear b1) | (refine aAH rfl (.tmp 63) rfl rfl HF.out.h ?_) | (go_at_call 125; refine (aD6 x.rs (a - 268632064) v _ HOK.out.rs O0 O1 v0 v1).mono ?_; rintro e w3 ⟨rfl, b1⟩; have HF := Hd (HF.out.below b1); have HM := Hd (HM.out.below b1); clear b1) | (refine aAJ rfl (.tmp 70) (.tmp 68) rfl rfl (x.rs.sto (a - 268632064) v) rfl HF.out ?_; intro w4 hF2 ho2; have HM := Hd (eB HM.out ho2 HF.out.h); have HF := Hd hF2; clear hF2 ho2))
 have HF := Hd (HF.out.like ({ x with rs := x.rs.sto (a - 268632064) v } : Bx))
 have HM := Hd (HM.out.like ({ x with rs := x.rs.sto (a - 268632064) v } : Bx))
 have cF := HF.out.h.cF
 have cQ := HF.out.h.cQ
 rw [HFA.out] at cF
 rw [HQS.out] at cQ
 go_upto_region 26 with (first | (refine dU rfl (.tmp 3) rfl rfl HF.out.h ?_) | (go_at_call 80; refine (aCl n c ({ x with rs := x.rs.sto (a - 268632064) v } : Bx) _ _ 16 _ HM.out HYK.out HLN.out).mono ?_; rintro e w10 ⟨bk8, ev8, rfl, M8, b8⟩; have HF := Hd (HF.out.below b8); have HM := Hd M8; clear M8 b8 cF cQ) | (refine dX rfl (.tmp 3) (.tmp 109) rfl rfl ((({ x with rs := x.rs.sto (a - 268632064) v } : Bx)).rst 16) bk8 ev8 n rfl HF.out.h (by rw [List.size_toArray, cO]) HM.out.one ?_; intro w11 hN9 ho9; have HM := Hd (eB HM.out ho9 HF.out.h); have HF := Hd (HF.out.turn hN9 ho9 HM.out.one); clear hN9 ho9))
 go_wp2_with (first | (refine dU rfl (.tmp 3) rfl rfl HF.out.h ?_) | (obtain ⟨cz, hz1, hz2⟩ := HF.out.z; refine dX rfl (.tmp 6) (.tmp 110) rfl rfl ((({ x with rs := x.rs.sto (a - 268632064) v } : Bx)).rst 16) bk8 _ n rfl hz1 hz2 HF.out.one ?_; intro u10 hN10 ho10; have HX := Hd (fT HF.out HM.out hN10 ho10); have HN10 := Hd hN10; clear hN10 ho10 hz1 hz2))
 exact eO
theorem aJv (n c : Nat) (x : Bx) (bk ev : Value) (a v : Int) (w : World) (M : MV w c x bk ev) (ok : x.ok n c) (hs : x.still) (a0 : 0 <= a) (a1 : a < 4294967296) (v0 : 0 <= v) (v1 : v < 4294967296) (hl : x.es.length < 4294967296) (h4 : a % 4 = 0) (g0 : 268697600 <= a) (g1 : a < 268697636) (e : wh a = .rk (a - 268697600)) (hok : (({ x with rk := x.rk.sto (a - 268697600) v } : Bx)).ok n c) (hfa : (({ x with rk := x.rk.sto (a - 268697600) v } : Bx)).wd.fa = 0) (hqs : (({ x with rk := x.rk.sto (a - 268697600) v } : Bx)).rs.qs = false) : Calls prog 70 #[.agg (ml n x bk ev).toArray, .int .u32 a, .int .u32 v] w (jO n c (({ x with rk := x.rk.sto (a - 268697600) v } : Bx)) (gY (a - 268697600)) w) := by
 have HFI := Hd (show fI a = (4, a - 268697600, true) by unfold fI; rw [e])
 have O0 : 0 <= a - 268697600 := by omega
 have O1 : a - 268697600 < 4294967296 := by omega
 have HFA := Hd hfa
 have HQS := Hd hqs
 have HYK := Hd hok
 clear hfa hqs hok
 have one := M.one
 have hfr := iH w n x bk ev one
 have hM0 := M.below (aE (aE (aH w) (bV n x bk ev)) fN)
 obtain ⟨gk, capk, rfl, hrk⟩ := M.k
 have HOK := Hd ok
 have HST := Hd hs
 have HLN := Hd hl
 have HA := Hd (show 0 <= a /\ a < 4294967296 from ⟨a0, a1⟩)
 clear hrk ok hl hs
 have H4 := Hd h4
 go_enter func70, ntmps70
 go_upto_region 1 with (fail)
 rw [cI, eL]
 generalize ((w.alloc (bV n x (.slice (some ⟨gk, 0, none⟩) c capk) ev)).alloc fN) = W at *
 generalize w.heap.size + 1 = r at *
 generalize hbn : w.heap.size = b at *
 have HF := Hd hfr
 have HM := Hd hM0
 clear hfr hM0 M one hbn
 go_upto_region 22 with (first | (go_at_call 121; refine (jL a _ HA.out.1 HA.out.2 H4.out).mono ?_; rw [HFI.out]; rintro e w1 ⟨rfl, b1⟩; have HF := Hd (HF.out.below b1); have HM := Hd (HM.out.below b1); clear b1) | (refine rW rfl (.tmp 74) rfl rfl HF.out.h ?_) | (go_at_call 126; refine (aLz x.rk (a - 268697600) v _ HOK.out.rk O0 O1 v0 v1).mono ?_; rintro e w3 ⟨rfl, b1⟩; have HF := Hd (HF.out.below b1); have HM := Hd (HM.out.below b1); clear b1) | (refine qC rfl (.tmp 81) (.tmp 79) rfl rfl (x.rk.sto (a - 268697600) v) rfl HF.out ?_; intro w4 hF2 ho2; have HM := Hd (eB HM.out ho2 HF.out.h); have HF := Hd hF2; clear hF2 ho2))
 have HF := Hd (HF.out.like ({ x with rk := x.rk.sto (a - 268697600) v } : Bx))
 have HM := Hd (HM.out.like ({ x with rk := x.rk.sto (a - 268697600) v } : Bx))
 have cF := HF.out.h.cF
 have cQ := HF.out.h.cQ
 rw [HFA.out] at cF
 rw [HQS.out] at cQ
 go_wp2_with (first | (refine dU rfl (.tmp 3) rfl rfl HF.out.h ?_) | (obtain ⟨cz, hz1, hz2⟩ := HF.out.z; refine dX rfl (.tmp 6) (.tmp 110) rfl rfl ({ x with rk := x.rk.sto (a - 268697600) v } : Bx) (.slice (some ⟨gk, 0, none⟩) c capk) _ n rfl hz1 hz2 HF.out.one ?_; intro u10 hN10 ho10; have HX := Hd (fT HF.out HM.out hN10 ho10); have HN10 := Hd hN10; clear hN10 ho10 hz1 hz2))
 exact eO
end Go.Proofs.YtaohacadochldaaGreat.B
