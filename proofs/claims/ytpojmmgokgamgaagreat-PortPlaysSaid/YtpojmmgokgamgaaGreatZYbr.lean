/- A part of the proof of a law of layer 12: br. -/
import Derived.Test.YtpojmmgokgamgaaGreatZYbq
import Derived.Test.YtpojmmgokgamgaaGreatZYO
set_option linter.unusedVariables false
set_option linter.unusedSimpArgs false
set_option maxHeartbeats 12800000
set_option maxRecDepth 100000
namespace Go.Proofs.YtpojmmgokgamgaaGreat.B
open Go.Proofs.Tryz
open Go.ChangeShapes Go.WideShapes Go.RowKit Go.Sort Go.MapKept
theorem aHb (n c : Nat) (x : Bx) (bk ev : Value) (a v : Int) (w : World) (M : MV w c x bk ev) (ok : x.ok n c) (hs : x.still) (a0 : 0 <= a) (a1 : a < 4294967296) (v0 : 0 <= v) (v1 : v < 4294967296) (hl : x.es.length < 4294967296) (h4 : a % 4 = 0) (g0 : 268763136 <= a) (g1 : a < 268763148) (e : wh a = .ln (a - 268763136)) (ho : a - 268763136 = 4) : Calls prog 59 #[.agg (ml n x bk ev).toArray, .int .u32 a, .int .u32 v] w (jB n c (({ x with msk := v } : Bx)) (0) w) := by
 have HFI := Hd (show fI a = (5, a - 268763136, true) by unfold fI; rw [e])
 have O0 : 0 <= a - 268763136 := by omega
 have O1 : a - 268763136 < 4294967296 := by omega
 have HO4 := Hd ho
 have HFA := Hd (show (({ x with msk := v } : Bx)).wd.fa = 0 from hs.1)
 have HQS := Hd (show (({ x with msk := v } : Bx)).rs.qs = false from hs.2)
 clear ho
 have one := M.one
 have hfr := gN w n x bk ev one
 have hM0 := M.below (aE (aE (aI w) (bR n x bk ev)) eT)
 obtain ⟨gk, capk, rfl, hrk⟩ := M.k
 have HOK := Hd ok
 have HST := Hd hs
 have HLN := Hd hl
 have HA := Hd (show 0 <= a /\ a < 4294967296 from ⟨a0, a1⟩)
 clear hrk ok hl hs
 have H4 := Hd h4
 go_enter func59, ntmps59
 go_upto_region 1 with (fail)
 rw [bU, dX]
 generalize ((w.alloc (bR n x (.slice (some ⟨gk, 0, none⟩) c capk) ev)).alloc eT) = W at *
 generalize w.heap.size + 1 = r at *
 generalize hbn : w.heap.size = b at *
 have HF := Hd hfr
 have HM := Hd hM0
 clear hfr hM0 M one hbn
 go_upto_region 20 with (first | (go_at_call 98; refine (iQ a _ HA.out.1 HA.out.2 H4.out).mono ?_; rw [HFI.out]; rintro e w1 ⟨rfl, b1⟩; have HF := Hd (HF.out.below b1); have HM := Hd (HM.out.below b1); clear b1) | (refine dM rfl (.tmp 3) rfl rfl HF.out.h ?_) | (go_at_call 71; refine (xQ n c x _ ev _ HM.out HOK.out).mono ?_; rintro e w2 ⟨rfl, b1⟩; have HF := Hd (HF.out.below b1); have HM := Hd (HM.out.below b1); clear b1) | (rw [yB]; refine jM rfl (.tmp 12) (.tmp 85) rfl _ rfl (fH n c x) (aO x.msk) rfl (aD w2 pK) (by simp [dC]) ?_; have hBl := aB (aE (aI w2) pK) (dQ (fH n c x) (aO x.msk)).toArray (g := w2.heap.size) (Nat.le_refl _); have HD := Hd (show rK ((w2.alloc pK).setRow w2.heap.size (dQ (fH n c x) (aO x.msk)).toArray) w2.heap.size (fH n c x) (aO x.msk) from aT _ (aD w2 pK)); have HLT := Hd (show b < w2.heap.size /\ r < w2.heap.size /\ w.heap.size <= w2.heap.size from ⟨HF.out.lt.1, HF.out.lt.2, HF.out.lo.size⟩); have HF := Hd (HF.out.below hBl); have HM := Hd (HM.out.below hBl); clear hBl; generalize (w2.alloc pK).setRow w2.heap.size (dQ (fH n c x) (aO x.msk)).toArray = w4 at *; generalize w2.heap.size = q at *))
 go_upto_region 21 with (first | (refine mC rfl (.tmp 12) rfl q rfl (fH n c x) (aO x.msk) HD.out ?_) | (go_at_call 110; rw [HO4.out]; refine (aJH (fH n c x) (aO x.msk) v _ v0 v1).mono ?_; rintro e w5 ⟨rfl, b1⟩; have HD := Hd (HD.out.below b1); have HF := Hd (HF.out.below b1); have HM := Hd (HM.out.below b1); clear b1) | (refine jM rfl (.tmp 12) (.tmp 91) rfl q rfl (fH n c x) (aO v) rfl HD.out (by simp [dC]) ?_; have ho := oP w5 q (dQ (fH n c x) (aO v)).toArray; have HM := Hd (aDI HM.out ho HD.out); have HF := Hd (HF.out.other ho (fun e => by have := HLT.out; omega) (fun e => by have := HLT.out; omega) (fun k hk e => by have := HLT.out; omega)); have HD := Hd (show rK (w5.setRow q (dQ (fH n c x) (aO v)).toArray) q (fH n c x) (aO v) from aT _ HD.out); clear ho; generalize w5.setRow q (dQ (fH n c x) (aO v)).toArray = w6 at *))
 go_upto_region 22 with (first | (refine qU rfl (.tmp 93) rfl q 32 rfl (aO v) HD.out (qF _ _) ?_) | (refine yN rfl (.tmp 95) (.tmp 94) rfl rfl v rfl HF.out ?_; intro w7 hF2 ho2; have HM := Hd (dP HM.out ho2 HF.out.h); have HF := Hd hF2; clear hF2 ho2))
 have HF := Hd (HF.out.like ({ x with msk := v } : Bx))
 have HM := Hd (HM.out.like ({ x with msk := v } : Bx))
 have cF := HF.out.h.cF
 have cQ := HF.out.h.cQ
 rw [HFA.out] at cF
 rw [HQS.out] at cQ
 go_wp2_with (first | (refine dM rfl (.tmp 3) rfl rfl HF.out.h ?_) | (obtain ⟨cz, hz1, hz2⟩ := HF.out.z; refine dN rfl (.tmp 6) (.tmp 110) rfl rfl ({ x with msk := v } : Bx) (.slice (some ⟨gk, 0, none⟩) c capk) _ n rfl hz1 hz2 HF.out.one ?_; intro u10 hN10 ho10; have HX := Hd (fC HF.out HM.out hN10 ho10); have HN10 := Hd hN10; clear hN10 ho10 hz1 hz2))
 exact eD
theorem aIv (n c : Nat) (x : Bx) (bk ev : Value) (a v : Int) (w : World) (M : MV w c x bk ev) (ok : x.ok n c) (hs : x.still) (a0 : 0 <= a) (a1 : a < 4294967296) (v0 : 0 <= v) (v1 : v < 4294967296) (hl : x.es.length < 4294967296) (h4 : a % 4 = 0) (g0 : 268763136 <= a) (g1 : a < 268763148) (e : wh a = .ln (a - 268763136)) (ho : a - 268763136 ≠ 4) : Calls prog 59 #[.agg (ml n x bk ev).toArray, .int .u32 a, .int .u32 v] w (jB n c (x) (nQ (a - 268763136)) w) := by
 have HFI := Hd (show fI a = (5, a - 268763136, true) by unfold fI; rw [e])
 have O0 : 0 <= a - 268763136 := by omega
 have O1 : a - 268763136 < 4294967296 := by omega
 have HO4 := Hd ho
 have HFA := Hd (show (x).wd.fa = 0 from hs.1)
 have HQS := Hd (show (x).rs.qs = false from hs.2)
 clear ho
 have one := M.one
 have hfr := gN w n x bk ev one
 have hM0 := M.below (aE (aE (aI w) (bR n x bk ev)) eT)
 obtain ⟨gk, capk, rfl, hrk⟩ := M.k
 have HOK := Hd ok
 have HST := Hd hs
 have HLN := Hd hl
 have HA := Hd (show 0 <= a /\ a < 4294967296 from ⟨a0, a1⟩)
 clear hrk ok hl hs
 have H4 := Hd h4
 go_enter func59, ntmps59
 go_upto_region 1 with (fail)
 rw [bU, dX]
 generalize ((w.alloc (bR n x (.slice (some ⟨gk, 0, none⟩) c capk) ev)).alloc eT) = W at *
 generalize w.heap.size + 1 = r at *
 generalize hbn : w.heap.size = b at *
 have HF := Hd hfr
 have HM := Hd hM0
 clear hfr hM0 M one hbn
 go_upto_region 20 with (first | (go_at_call 98; refine (iQ a _ HA.out.1 HA.out.2 H4.out).mono ?_; rw [HFI.out]; rintro e w1 ⟨rfl, b1⟩; have HF := Hd (HF.out.below b1); have HM := Hd (HM.out.below b1); clear b1) | (refine dM rfl (.tmp 3) rfl rfl HF.out.h ?_) | (go_at_call 71; refine (xQ n c x _ ev _ HM.out HOK.out).mono ?_; rintro e w2 ⟨rfl, b1⟩; have HF := Hd (HF.out.below b1); have HM := Hd (HM.out.below b1); clear b1) | (rw [yB]; refine jM rfl (.tmp 12) (.tmp 85) rfl _ rfl (fH n c x) (aO x.msk) rfl (aD w2 pK) (by simp [dC]) ?_; have hBl := aB (aE (aI w2) pK) (dQ (fH n c x) (aO x.msk)).toArray (g := w2.heap.size) (Nat.le_refl _); have HD := Hd (show rK ((w2.alloc pK).setRow w2.heap.size (dQ (fH n c x) (aO x.msk)).toArray) w2.heap.size (fH n c x) (aO x.msk) from aT _ (aD w2 pK)); have HLT := Hd (show b < w2.heap.size /\ r < w2.heap.size /\ w.heap.size <= w2.heap.size from ⟨HF.out.lt.1, HF.out.lt.2, HF.out.lo.size⟩); have HF := Hd (HF.out.below hBl); have HM := Hd (HM.out.below hBl); clear hBl; generalize (w2.alloc pK).setRow w2.heap.size (dQ (fH n c x) (aO x.msk)).toArray = w4 at *; generalize w2.heap.size = q at *))
 go_upto_region 21 with (first | (refine mC rfl (.tmp 12) rfl q rfl (fH n c x) (aO x.msk) HD.out ?_) | (go_at_call 110; refine (aHF (fH n c x) (aO x.msk) (a - 268763136) v _ O0 O1 HO4.out).mono ?_; rintro e w5 ⟨rfl, b1⟩; have HD := Hd (HD.out.below b1); have HF := Hd (HF.out.below b1); have HM := Hd (HM.out.below b1); clear b1) | (refine jM rfl (.tmp 12) (.tmp 91) rfl q rfl (fH n c x) (aO x.msk) rfl HD.out (by simp [dC]) ?_; have ho := oP w5 q (dQ (fH n c x) (aO x.msk)).toArray; have HM := Hd (aDI HM.out ho HD.out); have HF := Hd (HF.out.other ho (fun e => by have := HLT.out; omega) (fun e => by have := HLT.out; omega) (fun k hk e => by have := HLT.out; omega)); have HD := Hd (show rK (w5.setRow q (dQ (fH n c x) (aO x.msk)).toArray) q (fH n c x) (aO x.msk) from aT _ HD.out); clear ho; generalize w5.setRow q (dQ (fH n c x) (aO x.msk)).toArray = w6 at *))
 go_upto_region 22 with (first | (refine qU rfl (.tmp 93) rfl q 32 rfl (aO x.msk) HD.out (qF _ _) ?_) | (refine yN rfl (.tmp 95) (.tmp 94) rfl rfl x.msk rfl HF.out ?_; intro w7 hF2 ho2; have HM := Hd (dP HM.out ho2 HF.out.h); have HF := Hd hF2; clear hF2 ho2))
 have HF := Hd (HF.out.like x)
 have HM := Hd (HM.out.like x)
 have cF := HF.out.h.cF
 have cQ := HF.out.h.cQ
 rw [HFA.out] at cF
 rw [HQS.out] at cQ
 go_wp2_with (first | (refine dM rfl (.tmp 3) rfl rfl HF.out.h ?_) | (obtain ⟨cz, hz1, hz2⟩ := HF.out.z; refine dN rfl (.tmp 6) (.tmp 110) rfl rfl x (.slice (some ⟨gk, 0, none⟩) c capk) _ n rfl hz1 hz2 HF.out.one ?_; intro u10 hN10 ho10; have HX := Hd (fC HF.out HM.out hN10 ho10); have HN10 := Hd hN10; clear hN10 ho10 hz1 hz2))
 exact eD
theorem aLU (n c : Nat) (x : Bx) (bk ev : Value) (a v : Int) (w : World) (M : MV w c x bk ev) (ok : x.ok n c) (hs : x.still) (a0 : 0 <= a) (a1 : a < 4294967296) (v0 : 0 <= v) (v1 : v < 4294967296) (hl : x.es.length < 4294967296) : Calls prog 59 #[.agg (ml n x bk ev).toArray, .int .u32 a, .int .u32 v] w (jB n c (x.sto n c a v) (Bx.ste n c a) w) := by
 have hpk := Bx.put_ok ok (a := a) v0 v1
 have hpc := Bx.put_isC (n := n) (c := c) hs a v
 rcases nV a with ⟨g, e⟩ | ⟨g4, g0, g1, e⟩ | ⟨g4, g0, g1, e⟩ | ⟨g4, g0, g1, e⟩ | ⟨g4, g0, g1, e⟩ | ⟨g4, g0, g1, e⟩ | ⟨g4, g0, g1, e⟩ | ⟨g4, g, e⟩
 . have hp : x.put n c a v = x := by unfold Bx.put; rw [e]
   rw [oZ hp hs.1 hs.2, show Bx.ste n c a = 11 by unfold Bx.ste; rw [e]]
   exact aLi n c x bk ev a v w M ok hs a0 a1 v0 v1 hl g
 . have hp : x.put n c a v = ({ x with D := eV n x.D (a - 33554432) v, S := eU n x.S (a - 33554432) v } : Bx) := by unfold Bx.put; rw [e]
   rw [hp] at hpk hpc
   rw [show Bx.ste n c a = eE n (a - 33554432) by unfold Bx.ste; rw [e]]
   rw [oZ hp hs.1 hs.2]
   exact aIE n c x bk ev a v w M ok hs a0 a1 v0 v1 hl g4 g0 g1 e hpk hs.1 hs.2
 . have hp : x.put n c a v = ({ x with tm := jZ c x.tm (a - 268500992) v } : Bx) := by unfold Bx.put; rw [e]
   rw [hp] at hpk hpc
   rw [show Bx.ste n c a = lM c (a - 268500992) by unfold Bx.ste; rw [e]]
   rw [oZ hp hs.1 hs.2]
   exact aIB n c x bk ev a v w M ok hs a0 a1 v0 v1 hl g4 g0 g1 e hpk hs.1 hs.2
 . have hp : x.put n c a v = ({ x with wd := x.wd.sto (a - 268566528) v } : Bx) := by unfold Bx.put; rw [e]
   rw [hp] at hpk hpc
   rw [show Bx.ste n c a = kD (a - 268566528) by unfold Bx.ste; rw [e]]
   by_cases hf : (({ x with wd := x.wd.sto (a - 268566528) v } : Bx)).wd.fa = 0
   . rw [oZ hp hf hs.2]
     exact aHz n c x bk ev a v w M ok hs a0 a1 v0 v1 hl g4 g0 g1 e hpk hf hs.2
   . rw [aN7 hp hf hs.2]
     have hd : (({ x with wd := x.wd.sto (a - 268566528) v } : Bx)).due = (({ x with wd := x.wd.sto (a - 268566528) v } : Bx)).wd.fa := by simp only [Bx.due]; rw [show x.rs.qs = false from hs.2]; rfl
     rw [hd] at hpc
     exact aH4 n c x bk ev a v w M ok hs a0 a1 v0 v1 hl g4 g0 g1 e hpk hf hs.2 (Bx.rst_still (hpc.resolve_left hf)).2
 . have hp : x.put n c a v = ({ x with rs := x.rs.sto (a - 268632064) v } : Bx) := by unfold Bx.put; rw [e]
   rw [hp] at hpk hpc
   rw [show Bx.ste n c a = kF (a - 268632064) by unfold Bx.ste; rw [e]]
   by_cases hq : (({ x with rs := x.rs.sto (a - 268632064) v } : Bx)).rs.qs = true
   . rw [aNX hp hq]
     exact aIg n c x bk ev a v w M ok hs a0 a1 v0 v1 hl g4 g0 g1 e hpk hs.1 hq
   . have hq : (({ x with rs := x.rs.sto (a - 268632064) v } : Bx)).rs.qs = false := by simpa using hq
     rw [oZ hp hs.1 hq]
     exact aHx n c x bk ev a v w M ok hs a0 a1 v0 v1 hl g4 g0 g1 e hpk hs.1 hq
 . have hp : x.put n c a v = ({ x with rk := x.rk.sto (a - 268697600) v } : Bx) := by unfold Bx.put; rw [e]
   rw [hp] at hpk hpc
   rw [show Bx.ste n c a = gG (a - 268697600) by unfold Bx.ste; rw [e]]
   rw [oZ hp hs.1 hs.2]
   exact aIt n c x bk ev a v w M ok hs a0 a1 v0 v1 hl g4 g0 g1 e hpk hs.1 hs.2
 . by_cases ho : a - 268763136 = 4
   . have hp : x.put n c a v = ({ x with msk := v } : Bx) := by unfold Bx.put; rw [e]; exact if_pos ho
     rw [oZ hp hs.1 hs.2, show Bx.ste n c a = 0 by unfold Bx.ste; rw [e]; show nQ (a - 268763136) = 0; rw [ho]; rfl]
     exact aHb n c x bk ev a v w M ok hs a0 a1 v0 v1 hl g4 g0 g1 e ho
   . have hp : x.put n c a v = x := by unfold Bx.put; rw [e]; exact if_neg ho
     rw [oZ hp hs.1 hs.2, show Bx.ste n c a = nQ (a - 268763136) by unfold Bx.ste; rw [e]]
     exact aIv n c x bk ev a v w M ok hs a0 a1 v0 v1 hl g4 g0 g1 e ho
 . have hp : x.put n c a v = x := by unfold Bx.put; rw [e]
   rw [oZ hp hs.1 hs.2, show Bx.ste n c a = 10 by unfold Bx.ste; rw [e]]
   exact aNd n c x bk ev a v w M ok hs a0 a1 v0 v1 hl g4 e
theorem xH (h k d : Int) (w : World) (h0 : 1 <= h) (h1 : h <= 8) (k0 : 1 <= k) (k1 : k <= 8) (d0 : 0 < d) :
 Calls prog 8 #[.int .i64 h, .int .i64 k, .int .u32 d] w fun e w' => e = .returned (.bool true) /\ w' = w := by
 have e0 : decide (1 <= h) = true := decide_eq_true h0
 have e1 : decide (h <= 8) = true := decide_eq_true h1
 have e2 : decide (1 <= k) = true := decide_eq_true k0
 have e3 : decide (k <= 8) = true := decide_eq_true k1
 have e4 : decide (0 < d) = true := decide_eq_true d0
 go_enter func8, ntmps8
 exact aR
theorem aEk (h k d : Int) (w : World) (hn : ¬ (1 <= h /\ h <= 8 /\ 1 <= k /\ k <= 8 /\ 0 < d)) :
 Calls prog 8 #[.int .i64 h, .int .i64 k, .int .u32 d] w fun e w' => e = .returned (.bool false) /\ w' = w := by
 by_cases h0 : 1 <= h
 . have e0 : decide (1 <= h) = true := decide_eq_true h0
   by_cases h1 : h <= 8
   . have e1 : decide (h <= 8) = true := decide_eq_true h1
     by_cases h2 : 1 <= k
     . have e2 : decide (1 <= k) = true := decide_eq_true h2
       by_cases h3 : k <= 8
       . have e3 : decide (k <= 8) = true := decide_eq_true h3
         have e4 : decide (0 < d) = false := decide_eq_false (fun h4 => hn ⟨h0, h1, h2, h3, h4⟩)
         clear hn
         go_enter func8, ntmps8
         exact aR
       . have e3 : decide (k <= 8) = false := decide_eq_false h3
         clear hn h3
         go_enter func8, ntmps8
         exact aR
     . have e2 : decide (1 <= k) = false := decide_eq_false h2
       clear hn h2
       go_enter func8, ntmps8
       exact aR
   . have e1 : decide (h <= 8) = false := decide_eq_false h1
     clear hn h1
     go_enter func8, ntmps8
     exact aR
 . have e0 : decide (1 <= h) = false := decide_eq_false h0
   clear hn h0
   go_enter func8, ntmps8
   exact aR
theorem lP {P : Program} {ops : Array Oper} {o : Oper} {a : Act} {w : World} {K : Act -> World -> Prop} {Q : Exit -> Act -> World -> Prop} {E : Prop} (hgd : o.guard = none) (ty : TypeId) (x y : Operand) (ho : o.op = .store ty x y)
 (g off : Nat) (hx : a.eval x = .pointer (some ⟨g, off, none⟩)) (vs : List Value) (hy : a.eval y = .agg vs.toArray) {t : TypeId} {cs : Array Value} (hg : w.heap[g]? = some (.cells cs t (0, 0)))
 (hi : (P.info? ty).map (·.size) = some vs.length) (hl : off + vs.length <= cs.size) (h1 : ∀ v ∈ vs, v.oneCell' = true)
 (h : K (a.put o.dst undef) (w.setRow g (bN cs off vs))) : if Region.wanted o (yielded ops a.tmps) = true then Oper.wp P o a w K Q else E := by
 rw [if_pos (by simp [Region.wanted, hgd])]
 unfold Oper.wp execOp
 simp only [ho, hx, hy, Instr.storeAt, Instr.sureAddr, Sem.run_bind, Sem.run_pure, Result.andThen_ok, kG w g off t ty cs vs hg hi hl h1]
 exact h
theorem pQ {P : Prop} (h : P := by
 refine wpAny_take (i := 7) (v := .agg (ml n (rH d) (.slice (some ⟨g, 0, none⟩) c c) (.slice none 0 0)).toArray) rfl (by kernel_rfl) (by kernel_rfl) (by kernel_rfl) (fun _ _ _ h => h) (Or.inl ⟨by kernel_rfl, fun w => by kernel_rfl⟩) ?_
 refine wpAny_ready (rs := [8]) (by kernel_rfl) (by simp) ?_
 refine AllReady.cons rfl (fun K hK => ?_) AllReady.nil
 refine lP rfl 51 (.tmp 6) (.tmp 14) rfl b 0 rfl (ml n (rH d) (.slice (some ⟨g, 0, none⟩) c c) (.slice none 0 0)) rfl HZ.out (by rw [bZ]; exact aAy) (by rw [bZ]; exact Nat.le_refl _) (yW n (rH d) (.slice (some ⟨g, 0, none⟩) c c) (.slice none 0 0) rfl rfl) ?_
 refine hK _ _ ?_
 clear hK K
 refine wpAny_done (by kernel_rfl) ?_ _
 refine HK7.out _ _ ?_
 clear HK7 K7
 rw [aV _ _ (by rw [bZ]; rfl)]
 have hN : eR (w2.setRow b (ml n (rH d) (.slice (some ⟨g, 0, none⟩) c c) (.slice none 0 0)).toArray) b n (rH d) (.slice (some ⟨g, 0, none⟩) c c) (.slice none 0 0) := aT _ HZ.out
 have ho := oP w2 b (ml n (rH d) (.slice (some ⟨g, 0, none⟩) c c) (.slice none 0 0)).toArray
 have hM : MV (w2.setRow b (ml n (rH d) (.slice (some ⟨g, 0, none⟩) c c) (.slice none 0 0)).toArray) c (rH d) (.slice (some ⟨g, 0, none⟩) c c) (.slice none 0 0) := ⟨⟨g, c, rfl, HR.out.off ho (HR.out.ne HZ.out rfl)⟩, aCR _ _⟩
 have hB : Below w.heap.size w (w2.setRow b (ml n (rH d) (.slice (some ⟨g, 0, none⟩) c c) (.slice none 0 0)).toArray) := by rw [HBN.out]; exact aB HB.out _ (Nat.le_refl _)
 generalize w2.setRow b (ml n (rH d) (.slice (some ⟨g, 0, none⟩) c c) (.slice none 0 0)).toArray = u9 at *
 have HN := Hd hN
 have HM := Hd hM
 have HBB := Hd hB
 clear hN hM hB ho HB HZ HR
 go_wp2_with fail
 exact bodyPost_ret (aIr rfl _ _ rfl HN.out) rfl ⟨_, _, rfl, HM.out, HBB.out⟩
 ) : P := h
theorem aPD (n c : Nat) (d : Int) (w : World) (n8 : n <= 8) (c8 : c <= 8) :
 Calls prog 11 #[.int .i64 n, .int .i64 c, .int .u32 d] w (mS n c (rH d) w) := by
 have hmk : ∀ w : World, (Instr.makeSlice 41 (.int .i64 c) (.int .i64 c)).run prog w = .ok (.slice (some ⟨w.heap.size, 0, none⟩) c c) (w.alloc (zR c)) := fun w => aJU c c8 w
 go_enter func11, ntmps11
 go_upto_region 1 with (fail)
 rename_i K7 hK7
 have HK7 := Hd hK7
 clear hK7
 rw [dX]
 have HZ := Hd (aC (jH (aI (w.alloc eT))) (aD w eT) (lt_of_block (aD w eT)))
 have HB := Hd (jH (aE (aI w) eT))
 refine wp_region_any (by kernel_rfl) ?_
 try (change wpAny _ _ _ _ _ _ _ (World.drew _))
 generalize (w.alloc eT).drew = W0 at *
 generalize hbn : w.heap.size = b at *
 have HBN := Hd hbn
 clear hbn
 refine wpAny_take (i := 0) (v := .int .i64 n) rfl (by kernel_rfl) (by kernel_rfl) (by kernel_rfl) (fun _ _ _ h => h) (Or.inl ⟨by kernel_rfl, fun w => by go_simp⟩) ?_
 refine wpAny_take (i := 2) (v := .int .i64 c) rfl (by kernel_rfl) (by kernel_rfl) (by kernel_rfl) (fun _ _ _ h => h) (Or.inl ⟨by kernel_rfl, fun w => by go_simp⟩) ?_
 refine wpAny_take (i := 5) (v := .int .u32 d) rfl (by kernel_rfl) (by kernel_rfl) (by kernel_rfl) (fun _ _ _ h => h) (Or.inl ⟨by kernel_rfl, fun w => by go_simp⟩) ?_
 refine wpAny_take (i := 6) (v := .agg (kl (rk0 d)).toArray) rfl (by kernel_rfl) (by kernel_rfl) (by kernel_rfl) (fun _ _ _ h => h) (Or.inl ⟨by kernel_rfl, fun w => by kernel_rfl⟩) ?_
 refine wpAny_ready (rs := [1, 3]) (by kernel_rfl) (by simp) ?_
 refine AllReady.cons rfl (fun K hK => ?_) (AllReady.cons rfl (fun K hK => ?_) AllReady.nil)
 . go_simp
   go_wp2_with (go_at_call 28; refine (aJW n _).mono ?_; rintro e w0 ⟨rfl, b0⟩; have HZ := Hd (aC b0 HZ.out (lt_of_block HZ.out)); have HB := Hd (eJ HBN.out HB.out b0); clear b0)
   refine wpAny_ready (rs := [3, 4]) (by kernel_rfl) (by simp) ?_
   refine AllReady.cons rfl (fun K hK => ?_) (AllReady.cons rfl (fun K hK => ?_) AllReady.nil)
   . go_simp
     refine hK _ _ ?_
     clear hK K
     have HR := Hd (yV c c8 w0)
     have HZ := Hd (aC (aE (aI w0) (zR c)) HZ.out (lt_of_block HZ.out))
     have HB := Hd (eJ HBN.out HB.out (aE (aI w0) (zR c)))
     generalize w0.alloc (zR c) = w1 at *
     generalize w0.heap.size = g at *
     refine wpAny_ready (rs := [4]) (by kernel_rfl) (by simp) ?_
     refine AllReady.cons rfl (fun K hK => ?_) AllReady.nil
     go_simp
     go_wp2_with (go_at_call 29; refine (aHG _).mono ?_; rintro e w2 ⟨rfl, b2⟩; have HZ := Hd (aC b2 HZ.out (lt_of_block HZ.out)); have HB := Hd (eJ HBN.out HB.out b2); have HR := Hd (HR.out.below b2); clear b2)
     exact pQ
   . go_simp
     go_wp2_with (go_at_call 29; refine (aHG _).mono ?_; rintro e w1 ⟨rfl, b1⟩; have HZ := Hd (aC b1 HZ.out (lt_of_block HZ.out)); have HB := Hd (eJ HBN.out HB.out b1); clear b1)
     refine wpAny_ready (rs := [3]) (by kernel_rfl) (by simp) ?_
     refine AllReady.cons rfl (fun K hK => ?_) AllReady.nil
     go_simp
     refine hK _ _ ?_
     clear hK K
     have HR := Hd (yV c c8 w1)
     have HZ := Hd (aC (aE (aI w1) (zR c)) HZ.out (lt_of_block HZ.out))
     have HB := Hd (eJ HBN.out HB.out (aE (aI w1) (zR c)))
     generalize w1.alloc (zR c) = w2 at *
     generalize w1.heap.size = g at *
     exact pQ
 . go_simp
   refine hK _ _ ?_
   clear hK K
   have HR := Hd (yV c c8 W0)
   have HZ := Hd (aC (aE (aI W0) (zR c)) HZ.out (lt_of_block HZ.out))
   have HB := Hd (eJ HBN.out HB.out (aE (aI W0) (zR c)))
   generalize W0.alloc (zR c) = w0 at *
   generalize W0.heap.size = g at *
   refine wpAny_ready (rs := [1]) (by kernel_rfl) (by simp) ?_
   refine AllReady.cons rfl (fun K hK => ?_) AllReady.nil
   go_simp
   go_wp2_with (go_at_call 28; refine (aJW n _).mono ?_; rintro e w1 ⟨rfl, b1⟩; have HZ := Hd (aC b1 HZ.out (lt_of_block HZ.out)); have HB := Hd (eJ HBN.out HB.out b1); have HR := Hd (HR.out.below b1); clear b1)
   refine wpAny_ready (rs := [4]) (by kernel_rfl) (by simp) ?_
   refine AllReady.cons rfl (fun K hK => ?_) AllReady.nil
   go_simp
   go_wp2_with (go_at_call 29; refine (aHG _).mono ?_; rintro e w2 ⟨rfl, b2⟩; have HZ := Hd (aC b2 HZ.out (lt_of_block HZ.out)); have HB := Hd (eJ HBN.out HB.out b2); have HR := Hd (HR.out.below b2); clear b2)
   exact pQ
section
variable {p g n : Nat} {q : Nat -> Nat} {t : Nat -> Tm} {w : World}
theorem aNR (h : cI w p g n q t) (m i : Int) (hb : jD t 0 n m i) :
 Calls prog 143 #[.pointer (some ⟨p, 0, none⟩)] w fun e w' => e = .returned (.tuple #[.int .u64 m, .int .i64 i]) /\ Below w.heap.size w w' := by
 have n8 := h.rm.n8
 have HBest := Hd hb
 clear hb
 go_enter func143, ntmps143
 go_wp2_with fail
 go_step3
 go_wp2_with fail
 go_step3
 go_wp2_with fail
 refine (aDe h).mono ?_
 rintro e w1 ⟨rfl, rfl⟩
 go_wp2_with fail
 go_loopw [4, 5, 12] (fun a b i wr => ∃ (k : Nat) (M I : Int), k <= n /\ i = .int .i64 k /\ a = .int .u64 M /\ b = .int .i64 I /\ 1 <= M /\ M <= 18446744073709551615 /\ Hid (jD t 0 k M I) /\ cI wr p g n q t /\ Below w.heap.size w wr) (fun a b i wr => n - (intOf i).toNat)
 case atStart => exact ⟨0, nvr, -1, by omega, rfl, rfl, rfl, by decide, by decide, Hd (tJ t 0), h, aI w⟩
 case round =>
  clear h
  obtain ⟨k, M, I, hk, rfl, rfl, rfl, M0, M1, hX, H, hB⟩ := hrel
  by_cases hlt : k < n
  . have hc := H.get hlt
    have ht := H.rm.tms k hlt
    have ok := H.rm.ok k hlt
    have oks := Hd H.rm.ok
    have HH := Hd H
    have C := aGW (t k) (q k) wr ok ht
    have hlb := aCH ok
    unfold nvr at hlb
    clear H
    by_cases hl : M <= (t k).lef
    . have HL := Hd hl
      generalize hV : (t k).lef = V at *
      have HV := Hd hV
      clear hV
      go_wp2_with fail
      refine C.mono ?_
      rintro e w2 ⟨rfl, hb⟩
      have H2 := HH.out.below hb
      have hB2 := tr hB hb
      clear HH hc ht hb C
      go_wp2_with fail
      go_roundw
      case rel => exact ⟨k + 1, M, I, by omega, by go_num, rfl, rfl, M0, M1, Hd (hX.out.skip ok (by rw [HV.out]; exact HL.out)), H2, hB2⟩
      case measure => simp [intOf]; omega
    . have HL := Hd (show (t k).lef < M by omega)
      have hl2 : (t k).lef < M := by omega
      clear hl
      have HX2 := Hd (hX.out.take (fun j hj => oks.out j (by omega)) ok hl2)
      generalize (t k).lef = V at *
      go_wp2_with fail
      refine C.mono ?_
      rintro e w2 ⟨rfl, hb⟩
      have H2 := HH.out.below hb
      have hB2 := tr hB hb
      clear HH hc ht hb C
      go_wp2_with fail
      go_roundw
      case rel => exact ⟨k + 1, V, k, by omega, by go_num, rfl, rfl, hlb.1, hlb.2, HX2, H2, hB2⟩
      case measure => simp [intOf]; omega
  . obtain rfl : k = n := by omega
    obtain ⟨e1, e2⟩ := HBest.out.same hX.out
    subst e1 e2
    go_wp2_with fail
    rw [Exit.noGoto_ret]
    go_ret2
    exact ⟨rfl, hB⟩
end
def k1 : Tm := ⟨3, 0, false, false, false, 0, 0, false⟩
def k2 : Tm := ⟨3, 3, true, true, false, 1, 0, false⟩
def k3 : Tm := ⟨3, 1, true, true, false, 1, 1, false⟩
def k4 : Tm := ⟨3, 3, true, true, false, 1, 0, true⟩
theorem aLW (t : Tm) (p : Nat) (w : World) (h : t.ok) (a : jA w p tC t) :
 Calls prog 146 #[.pointer (some ⟨p, 0, none⟩), .agg (rl t).toArray] w fun e w' => e = .returned (.bool true) /\ Below w.heap.size w w' := by
 have A := a.below (aE (aI w) (oM t))
 have M : cA (w.alloc (oM t)) w.heap.size t := aD w (oM t)
 have hB := aE (aI w) (oM t)
 clear a
 go_enter func146, ntmps146
 go_upto_region 1 with (fail)
 rw [show Obj.cells (rl t).toArray 228 (0, 0) = oM t from rfl]
 generalize (w.alloc (oM t)) = W at *
 go_wp2_with fail
 go_loopw [5] (fun i wr => ∃ j : Int, 0 <= j /\ j <= 4 /\ i = .int .u32 (4 * j) /\ jA wr p tC t /\ cA wr w.heap.size t /\ Below w.heap.size w wr) (fun i wr => (20 - intOf i).toNat)
 case atStart => exact ⟨0, by omega, by omega, rfl, A, M, hB⟩
 case round =>
  clear A M hB
  obtain ⟨j, j0, j4, rfl, A, M, hB⟩ := hrel
  by_cases hlt : j < 4
  . have q : 4 * j < 16 := by omega
    obtain ⟨V, hV⟩ : ∃ V, t.val (4 * j) = V := ⟨_, rfl⟩
    obtain ⟨E, hE⟩ : ∃ E, eX (4 * j) = E := ⟨_, rfl⟩
    have CL := Hd (fun w a => by have := aJj t (4 * j) p w h a (by omega) (by omega); rw [hV, hE] at this; exact this)
    have RL := Hd (fun w => by have := aEh t (4 * j) w h (by omega) (by omega); rw [hV, hE] at this; exact this)
    have zV : (V != V) = false := by simp
    have zE : (E != E) = false := by simp
    clear hV hE
    go_wp2_with fail
    refine (CL.out _ A).mono ?_
    rintro e w' ⟨rfl, rfl⟩
    go_wp2_with (refine dS rfl (.tmp 3) rfl rfl M ?_)
    refine (RL.out _).mono ?_
    rintro e w1 ⟨rfl, hb⟩
    have A1 := A.below hb
    have M1 := M.below hb
    have B1 := tr hB hb
    clear A M hB hb CL RL
    go_wp2_with fail
    go_roundw
    case rel => exact ⟨j + 1, by omega, by omega, by go_num, A1, M1, B1⟩
    case measure => simp [intOf]; omega
  . obtain rfl : j = 4 := by omega
    obtain ⟨l, hl⟩ : ∃ l, (t.st && t.iq) = l := ⟨_, rfl⟩
    obtain ⟨V, hV⟩ : ∃ V, t.lef = V := ⟨_, rfl⟩
    have m2 := M.c2
    have m4 := M.c4
    have m7 := M.c7
    have RN := Hd (fun w a => aCj t p w h a)
    have LN := Hd (fun w a => by have := aJf t p w h a; rw [hl] at this; exact this)
    have LF := Hd (fun w a => by have := aGW t p w h a; rw [hV] at this; exact this)
    have ML := Hd (fun w => by have := aG6 t w h; rw [hV] at this; exact this)
    have HA := Hd A
    have HM := Hd M
    have hg := bI
    have hlt := M.lt
    clear A M hV
    obtain ⟨en, hen⟩ : ∃ b, t.en = b := ⟨_, rfl⟩
    obtain ⟨iq, hiq⟩ : ∃ b, t.iq = b := ⟨_, rfl⟩
    obtain ⟨st, hst⟩ : ∃ b, t.st = b := ⟨_, rfl⟩
    rw [hen] at m2 RN
    rw [hiq] at m4 hl
    rw [hst] at m7 hl
    clear hen hiq hst
    cases en <;> cases iq <;> cases st
    all_goals
     simp only [Bool.and_true, Bool.and_false, Bool.and_self] at hl
     subst hl
     go_wp2_with fail
     refine wp_region_quiet_below (by kernel_rfl) (by kernel_rfl) ?_
     repeat (first
      | go_big_quiet_skip
      | (go_big_quiet_want; first
          | (refine aLo (.tmp 3) rfl rfl HM.out.grown ?_; go_simp; go_big_quiet_on)
          | (go_big_quiet_op; first
              | go_big_quiet_on
              | go_big_quiet_call (first
                 | (go_at_call 195; exact Calls.regrown_of (RN.out _ (HA.out.below (below_regrown wr _ _))))
                 | (go_at_call 183; exact Calls.regrown_of (LN.out _ (HA.out.below (below_regrown wr _ _))))
                 | (go_at_call 194; exact Calls.regrown_of (LF.out _ (HA.out.below (below_regrown wr _ _))))
                 | (go_at_call 188; exact Calls.regrown_of (ML.out _))))))
     refine wpQuiet_nil ?_
     intro _ hw'
     obtain ⟨⟨dq, osq⟩, hw''⟩ := hw'
     subst hw''
     go_wp2_with fail
     go_ret
     exact ⟨bX (by simp), trG hB _ _⟩
end Go.Proofs.YtpojmmgokgamgaaGreat.B
