/- A part of the proof of a law of layer 12: bm. -/
import Derived.Test.YtaohacadochldaaGreatZCbl
import Derived.Test.YtaohacadochldaaGreatZCO
set_option linter.unusedVariables false
set_option linter.unusedSimpArgs false
set_option maxHeartbeats 12800000
set_option maxRecDepth 100000
namespace Go.Proofs.YtaohacadochldaaGreat.B
open Go.Proofs.Tryz
open Go.ChangeShapes Go.WideShapes Go.RowKit Go.Sort Go.MapKept
theorem aJt (n c : Nat) (x : Bx) (bk ev : Value) (a v : Int) (w : World) (M : MV w c x bk ev) (ok : x.ok n c) (hs : x.still) (a0 : 0 <= a) (a1 : a < 4294967296) (v0 : 0 <= v) (v1 : v < 4294967296) (hl : x.es.length < 4294967296) (h4 : a % 4 = 0) (g0 : 268763136 <= a) (g1 : a < 268763148) (e : wh a = .ln (a - 268763136)) (ho : a - 268763136 = 4) : Calls prog 70 #[.agg (ml n x bk ev).toArray, .int .u32 a, .int .u32 v] w (jO n c (({ x with msk := v } : Bx)) (0) w) := by
 have HFI := Hd (show fI a = (5, a - 268763136, true) by unfold fI; rw [e])
 have O0 : 0 <= a - 268763136 := by omega
 have O1 : a - 268763136 < 4294967296 := by omega
 have HO4 := Hd ho
 have HFA := Hd (show (({ x with msk := v } : Bx)).wd.fa = 0 from hs.1)
 have HQS := Hd (show (({ x with msk := v } : Bx)).rs.qs = false from hs.2)
 clear ho
 have one := M.one
 have hfr := iH w n x bk ev one
 have hM0 := M.below (aE (aE (aH w) (bV n x bk ev)) fN)
 obtain ⟨gk, capk, rfl, hrk⟩ := M.k
 have HOK := Hd ok
 have HST := Hd hs
 have HLN := Hd hl
 have HA := Hd (show 0 <= a /\ a < 4294967296 from ⟨a0, a1⟩)
 clear hrk ok hl hs
 have H4 := Hd h4
 go_enter func70, ntmps70
 go_upto_region 1 with (fail)
 rw [cI, eL]
 generalize ((w.alloc (bV n x (.slice (some ⟨gk, 0, none⟩) c capk) ev)).alloc fN) = W at *
 generalize w.heap.size + 1 = r at *
 generalize hbn : w.heap.size = b at *
 have HF := Hd hfr
 have HM := Hd hM0
 clear hfr hM0 M one hbn
 go_upto_region 20 with (first | (go_at_call 121; refine (jL a _ HA.out.1 HA.out.2 H4.out).mono ?_; rw [HFI.out]; rintro e w1 ⟨rfl, b1⟩; have HF := Hd (HF.out.below b1); have HM := Hd (HM.out.below b1); clear b1) | (refine dU rfl (.tmp 3) rfl rfl HF.out.h ?_) | (go_at_call 85; refine (aAe n c x _ ev _ HM.out HOK.out).mono ?_; rintro e w2 ⟨rfl, b1⟩; have HF := Hd (HF.out.below b1); have HM := Hd (HM.out.below b1); clear b1) | (rw [aAf]; refine jU rfl (.tmp 12) (.tmp 85) rfl _ rfl (fH n c x) (aO x.msk) rfl (aD w2 qO) (by simp [dJ]) ?_; have hBl := aB (aE (aH w2) qO) (dZ (fH n c x) (aO x.msk)).toArray (g := w2.heap.size) (Nat.le_refl _); have HD := Hd (show sI ((w2.alloc qO).setRow w2.heap.size (dZ (fH n c x) (aO x.msk)).toArray) w2.heap.size (fH n c x) (aO x.msk) from aY _ (aD w2 qO)); have HLT := Hd (show b < w2.heap.size /\ r < w2.heap.size /\ w.heap.size <= w2.heap.size from ⟨HF.out.lt.1, HF.out.lt.2, HF.out.lo.size⟩); have HF := Hd (HF.out.below hBl); have HM := Hd (HM.out.below hBl); clear hBl; generalize (w2.alloc qO).setRow w2.heap.size (dZ (fH n c x) (aO x.msk)).toArray = w4 at *; generalize w2.heap.size = q at *))
 go_upto_region 21 with (first | (refine mX rfl (.tmp 12) rfl q rfl (fH n c x) (aO x.msk) HD.out ?_) | (go_at_call 127; rw [HO4.out]; refine (aI5 (fH n c x) (aO x.msk) v _ v0 v1).mono ?_; rintro e w5 ⟨rfl, b1⟩; have HD := Hd (HD.out.below b1); have HF := Hd (HF.out.below b1); have HM := Hd (HM.out.below b1); clear b1) | (refine jU rfl (.tmp 12) (.tmp 91) rfl q rfl (fH n c x) (aO v) rfl HD.out (by simp [dJ]) ?_; have ho := qF w5 q (dZ (fH n c x) (aO v)).toArray; have HM := Hd (aDn HM.out ho HD.out); have HF := Hd (HF.out.other ho (fun e => by have := HLT.out; omega) (fun e => by have := HLT.out; omega) (fun k hk e => by have := HLT.out; omega)); have HD := Hd (show sI (w5.setRow q (dZ (fH n c x) (aO v)).toArray) q (fH n c x) (aO v) from aY _ HD.out); clear ho; generalize w5.setRow q (dZ (fH n c x) (aO v)).toArray = w6 at *))
 go_upto_region 22 with (first | (refine rT rfl (.tmp 93) rfl q 32 rfl (aO v) HD.out (rS _ _) ?_) | (refine aAI rfl (.tmp 95) (.tmp 94) rfl rfl v rfl HF.out ?_; intro w7 hF2 ho2; have HM := Hd (eB HM.out ho2 HF.out.h); have HF := Hd hF2; clear hF2 ho2))
 have HF := Hd (HF.out.like ({ x with msk := v } : Bx))
 have HM := Hd (HM.out.like ({ x with msk := v } : Bx))
 have cF := HF.out.h.cF
 have cQ := HF.out.h.cQ
 rw [HFA.out] at cF
 rw [HQS.out] at cQ
 go_wp2_with (first | (refine dU rfl (.tmp 3) rfl rfl HF.out.h ?_) | (obtain ⟨cz, hz1, hz2⟩ := HF.out.z; refine dX rfl (.tmp 6) (.tmp 110) rfl rfl ({ x with msk := v } : Bx) (.slice (some ⟨gk, 0, none⟩) c capk) _ n rfl hz1 hz2 HF.out.one ?_; intro u10 hN10 ho10; have HX := Hd (fT HF.out HM.out hN10 ho10); have HN10 := Hd hN10; clear hN10 ho10 hz1 hz2))
 exact eO
theorem aJu (n c : Nat) (x : Bx) (bk ev : Value) (a v : Int) (w : World) (M : MV w c x bk ev) (ok : x.ok n c) (hs : x.still) (a0 : 0 <= a) (a1 : a < 4294967296) (v0 : 0 <= v) (v1 : v < 4294967296) (hl : x.es.length < 4294967296) (h4 : a % 4 = 0) (g0 : 268763136 <= a) (g1 : a < 268763148) (e : wh a = .ln (a - 268763136)) (ho : a - 268763136 ≠ 4) : Calls prog 70 #[.agg (ml n x bk ev).toArray, .int .u32 a, .int .u32 v] w (jO n c (x) (oN (a - 268763136)) w) := by
 have HFI := Hd (show fI a = (5, a - 268763136, true) by unfold fI; rw [e])
 have O0 : 0 <= a - 268763136 := by omega
 have O1 : a - 268763136 < 4294967296 := by omega
 have HO4 := Hd ho
 have HFA := Hd (show (x).wd.fa = 0 from hs.1)
 have HQS := Hd (show (x).rs.qs = false from hs.2)
 clear ho
 have one := M.one
 have hfr := iH w n x bk ev one
 have hM0 := M.below (aE (aE (aH w) (bV n x bk ev)) fN)
 obtain ⟨gk, capk, rfl, hrk⟩ := M.k
 have HOK := Hd ok
 have HST := Hd hs
 have HLN := Hd hl
 have HA := Hd (show 0 <= a /\ a < 4294967296 from ⟨a0, a1⟩)
 clear hrk ok hl hs
 have H4 := Hd h4
 go_enter func70, ntmps70
 go_upto_region 1 with (fail)
 rw [cI, eL]
 generalize ((w.alloc (bV n x (.slice (some ⟨gk, 0, none⟩) c capk) ev)).alloc fN) = W at *
 generalize w.heap.size + 1 = r at *
 generalize hbn : w.heap.size = b at *
 have HF := Hd hfr
 have HM := Hd hM0
 clear hfr hM0 M one hbn
 go_upto_region 20 with (first | (go_at_call 121; refine (jL a _ HA.out.1 HA.out.2 H4.out).mono ?_; rw [HFI.out]; rintro e w1 ⟨rfl, b1⟩; have HF := Hd (HF.out.below b1); have HM := Hd (HM.out.below b1); clear b1) | (refine dU rfl (.tmp 3) rfl rfl HF.out.h ?_) | (go_at_call 85; refine (aAe n c x _ ev _ HM.out HOK.out).mono ?_; rintro e w2 ⟨rfl, b1⟩; have HF := Hd (HF.out.below b1); have HM := Hd (HM.out.below b1); clear b1) | (rw [aAf]; refine jU rfl (.tmp 12) (.tmp 85) rfl _ rfl (fH n c x) (aO x.msk) rfl (aD w2 qO) (by simp [dJ]) ?_; have hBl := aB (aE (aH w2) qO) (dZ (fH n c x) (aO x.msk)).toArray (g := w2.heap.size) (Nat.le_refl _); have HD := Hd (show sI ((w2.alloc qO).setRow w2.heap.size (dZ (fH n c x) (aO x.msk)).toArray) w2.heap.size (fH n c x) (aO x.msk) from aY _ (aD w2 qO)); have HLT := Hd (show b < w2.heap.size /\ r < w2.heap.size /\ w.heap.size <= w2.heap.size from ⟨HF.out.lt.1, HF.out.lt.2, HF.out.lo.size⟩); have HF := Hd (HF.out.below hBl); have HM := Hd (HM.out.below hBl); clear hBl; generalize (w2.alloc qO).setRow w2.heap.size (dZ (fH n c x) (aO x.msk)).toArray = w4 at *; generalize w2.heap.size = q at *))
 go_upto_region 21 with (first | (refine mX rfl (.tmp 12) rfl q rfl (fH n c x) (aO x.msk) HD.out ?_) | (go_at_call 127; refine (aHG (fH n c x) (aO x.msk) (a - 268763136) v _ O0 O1 HO4.out).mono ?_; rintro e w5 ⟨rfl, b1⟩; have HD := Hd (HD.out.below b1); have HF := Hd (HF.out.below b1); have HM := Hd (HM.out.below b1); clear b1) | (refine jU rfl (.tmp 12) (.tmp 91) rfl q rfl (fH n c x) (aO x.msk) rfl HD.out (by simp [dJ]) ?_; have ho := qF w5 q (dZ (fH n c x) (aO x.msk)).toArray; have HM := Hd (aDn HM.out ho HD.out); have HF := Hd (HF.out.other ho (fun e => by have := HLT.out; omega) (fun e => by have := HLT.out; omega) (fun k hk e => by have := HLT.out; omega)); have HD := Hd (show sI (w5.setRow q (dZ (fH n c x) (aO x.msk)).toArray) q (fH n c x) (aO x.msk) from aY _ HD.out); clear ho; generalize w5.setRow q (dZ (fH n c x) (aO x.msk)).toArray = w6 at *))
 go_upto_region 22 with (first | (refine rT rfl (.tmp 93) rfl q 32 rfl (aO x.msk) HD.out (rS _ _) ?_) | (refine aAI rfl (.tmp 95) (.tmp 94) rfl rfl x.msk rfl HF.out ?_; intro w7 hF2 ho2; have HM := Hd (eB HM.out ho2 HF.out.h); have HF := Hd hF2; clear hF2 ho2))
 have HF := Hd (HF.out.like x)
 have HM := Hd (HM.out.like x)
 have cF := HF.out.h.cF
 have cQ := HF.out.h.cQ
 rw [HFA.out] at cF
 rw [HQS.out] at cQ
 go_wp2_with (first | (refine dU rfl (.tmp 3) rfl rfl HF.out.h ?_) | (obtain ⟨cz, hz1, hz2⟩ := HF.out.z; refine dX rfl (.tmp 6) (.tmp 110) rfl rfl x (.slice (some ⟨gk, 0, none⟩) c capk) _ n rfl hz1 hz2 HF.out.one ?_; intro u10 hN10 ho10; have HX := Hd (fT HF.out HM.out hN10 ho10); have HN10 := Hd hN10; clear hN10 ho10 hz1 hz2))
 exact eO
theorem aNG (n c : Nat) (x : Bx) (bk ev : Value) (a v : Int) (w : World) (M : MV w c x bk ev) (ok : x.ok n c) (hs : x.still) (a0 : 0 <= a) (a1 : a < 4294967296) (v0 : 0 <= v) (v1 : v < 4294967296) (hl : x.es.length < 4294967296) : Calls prog 70 #[.agg (ml n x bk ev).toArray, .int .u32 a, .int .u32 v] w (jO n c (x.sto n c a v) (Bx.ste n c a) w) := by
 have hpk := Bx.put_ok ok (a := a) v0 v1
 have hpc := Bx.put_isC (n := n) (c := c) hs a v
 rcases pK a with ⟨g, e⟩ | ⟨g4, g0, g1, e⟩ | ⟨g4, g0, g1, e⟩ | ⟨g4, g0, g1, e⟩ | ⟨g4, g0, g1, e⟩ | ⟨g4, g0, g1, e⟩ | ⟨g4, g0, g1, e⟩ | ⟨g4, g, e⟩
 . have hp : x.put n c a v = x := by unfold Bx.put; rw [e]
   rw [qL hp hs.1 hs.2, show Bx.ste n c a = 11 by unfold Bx.ste; rw [e]]
   exact aNF n c x bk ev a v w M ok hs a0 a1 v0 v1 hl g
 . have hp : x.put n c a v = ({ x with D := eT n x.D (a - 33554432) v, S := eU n x.S (a - 33554432) v } : Bx) := by unfold Bx.put; rw [e]
   rw [hp] at hpk hpc
   rw [show Bx.ste n c a = eP n (a - 33554432) by unfold Bx.ste; rw [e]]
   rw [qL hp hs.1 hs.2]
   exact aJq n c x bk ev a v w M ok hs a0 a1 v0 v1 hl g4 g0 g1 e hpk hs.1 hs.2
 . have hp : x.put n c a v = ({ x with tm := kL c x.tm (a - 268500992) v } : Bx) := by unfold Bx.put; rw [e]
   rw [hp] at hpk hpc
   rw [show Bx.ste n c a = mE c (a - 268500992) by unfold Bx.ste; rw [e]]
   rw [qL hp hs.1 hs.2]
   exact aJp n c x bk ev a v w M ok hs a0 a1 v0 v1 hl g4 g0 g1 e hpk hs.1 hs.2
 . have hp : x.put n c a v = ({ x with wd := x.wd.sto (a - 268566528) v } : Bx) := by unfold Bx.put; rw [e]
   rw [hp] at hpk hpc
   rw [show Bx.ste n c a = kQ (a - 268566528) by unfold Bx.ste; rw [e]]
   by_cases hf : (({ x with wd := x.wd.sto (a - 268566528) v } : Bx)).wd.fa = 0
   . rw [qL hp hf hs.2]
     exact aJr n c x bk ev a v w M ok hs a0 a1 v0 v1 hl g4 g0 g1 e hpk hf hs.2
   . rw [aO6 hp hf hs.2]
     have hd : (({ x with wd := x.wd.sto (a - 268566528) v } : Bx)).due = (({ x with wd := x.wd.sto (a - 268566528) v } : Bx)).wd.fa := by simp only [Bx.due]; rw [show x.rs.qs = false from hs.2]; rfl
     rw [hd] at hpc
     exact aJs n c x bk ev a v w M ok hs a0 a1 v0 v1 hl g4 g0 g1 e hpk hf hs.2 (Bx.rst_still (hpc.resolve_left hf)).2
 . have hp : x.put n c a v = ({ x with rs := x.rs.sto (a - 268632064) v } : Bx) := by unfold Bx.put; rw [e]
   rw [hp] at hpk hpc
   rw [show Bx.ste n c a = kP (a - 268632064) by unfold Bx.ste; rw [e]]
   by_cases hq : (({ x with rs := x.rs.sto (a - 268632064) v } : Bx)).rs.qs = true
   . rw [aO7 hp hq]
     exact aJx n c x bk ev a v w M ok hs a0 a1 v0 v1 hl g4 g0 g1 e hpk hs.1 hq
   . have hq : (({ x with rs := x.rs.sto (a - 268632064) v } : Bx)).rs.qs = false := by simpa using hq
     rw [qL hp hs.1 hq]
     exact aJw n c x bk ev a v w M ok hs a0 a1 v0 v1 hl g4 g0 g1 e hpk hs.1 hq
 . have hp : x.put n c a v = ({ x with rk := x.rk.sto (a - 268697600) v } : Bx) := by unfold Bx.put; rw [e]
   rw [hp] at hpk hpc
   rw [show Bx.ste n c a = gY (a - 268697600) by unfold Bx.ste; rw [e]]
   rw [qL hp hs.1 hs.2]
   exact aJv n c x bk ev a v w M ok hs a0 a1 v0 v1 hl g4 g0 g1 e hpk hs.1 hs.2
 . by_cases ho : a - 268763136 = 4
   . have hp : x.put n c a v = ({ x with msk := v } : Bx) := by unfold Bx.put; rw [e]; exact if_pos ho
     rw [qL hp hs.1 hs.2, show Bx.ste n c a = 0 by unfold Bx.ste; rw [e]; show oN (a - 268763136) = 0; rw [ho]; rfl]
     exact aJt n c x bk ev a v w M ok hs a0 a1 v0 v1 hl g4 g0 g1 e ho
   . have hp : x.put n c a v = x := by unfold Bx.put; rw [e]; exact if_neg ho
     rw [qL hp hs.1 hs.2, show Bx.ste n c a = oN (a - 268763136) by unfold Bx.ste; rw [e]]
     exact aJu n c x bk ev a v w M ok hs a0 a1 v0 v1 hl g4 g0 g1 e ho
 . have hp : x.put n c a v = x := by unfold Bx.put; rw [e]
   rw [qL hp hs.1 hs.2, show Bx.ste n c a = 10 by unfold Bx.ste; rw [e]]
   exact aPD n c x bk ev a v w M ok hs a0 a1 v0 v1 hl g4 e
theorem mJ {P : Program} {ops : Array Oper} {o : Oper} {a : Act} {w : World} {K : Act -> World -> Prop} {Q : Exit -> Act -> World -> Prop} {E : Prop} (hgd : o.guard = none) (ty : TypeId) (x y : Operand) (ho : o.op = .store ty x y)
 (g off : Nat) (hx : a.eval x = .pointer (some ⟨g, off, none⟩)) (vs : List Value) (hy : a.eval y = .agg vs.toArray) {t : TypeId} {cs : Array Value} (hg : w.heap[g]? = some (.cells cs t (0, 0)))
 (hi : (P.info? ty).map (·.size) = some vs.length) (hl : off + vs.length <= cs.size) (h1 : ∀ v ∈ vs, v.oneCell' = true)
 (h : K (a.put o.dst undef) (w.setRow g (bR cs off vs))) : if Region.wanted o (yielded ops a.tmps) = true then Oper.wp P o a w K Q else E := by
 rw [if_pos (by simp [Region.wanted, hgd])]
 unfold Oper.wp execOp
 simp only [ho, hx, hy, Instr.storeAt, Instr.sureAddr, Sem.run_bind, Sem.run_pure, Result.andThen_ok, kT w g off t ty cs vs hg hi hl h1]
 exact h
theorem qY {P : Prop} (h : P := by
 refine wpAny_take (i := 7) (v := .agg (ml n (qQ d) (.slice (some ⟨g, 0, none⟩) c c) (.slice none 0 0)).toArray) rfl (by kernel_rfl) (by kernel_rfl) (by kernel_rfl) (fun _ _ _ h => h) (Or.inl ⟨by kernel_rfl, fun w => by kernel_rfl⟩) ?_
 refine wpAny_ready (rs := [8]) (by kernel_rfl) (by simp) ?_
 refine AllReady.cons rfl (fun K hK => ?_) AllReady.nil
 refine mJ rfl 40 (.tmp 6) (.tmp 14) rfl b 0 rfl (ml n (qQ d) (.slice (some ⟨g, 0, none⟩) c c) (.slice none 0 0)) rfl HZ.out (by rw [cO]; exact aA9) (by rw [cO]; exact Nat.le_refl _) (aAG n (qQ d) (.slice (some ⟨g, 0, none⟩) c c) (.slice none 0 0) rfl rfl) ?_
 refine hK _ _ ?_
 clear hK K
 refine wpAny_done (by kernel_rfl) ?_ _
 refine HK7.out _ _ ?_
 clear HK7 K7
 rw [aW _ _ (by rw [cO]; rfl)]
 have hN : eY (w2.setRow b (ml n (qQ d) (.slice (some ⟨g, 0, none⟩) c c) (.slice none 0 0)).toArray) b n (qQ d) (.slice (some ⟨g, 0, none⟩) c c) (.slice none 0 0) := aY _ HZ.out
 have ho := qF w2 b (ml n (qQ d) (.slice (some ⟨g, 0, none⟩) c c) (.slice none 0 0)).toArray
 have hM : MV (w2.setRow b (ml n (qQ d) (.slice (some ⟨g, 0, none⟩) c c) (.slice none 0 0)).toArray) c (qQ d) (.slice (some ⟨g, 0, none⟩) c c) (.slice none 0 0) := ⟨⟨g, c, rfl, HR.out.off ho (HR.out.ne HZ.out rfl)⟩, aCU _ _⟩
 have hB : Below w.heap.size w (w2.setRow b (ml n (qQ d) (.slice (some ⟨g, 0, none⟩) c c) (.slice none 0 0)).toArray) := by rw [HBN.out]; exact aB HB.out _ (Nat.le_refl _)
 generalize w2.setRow b (ml n (qQ d) (.slice (some ⟨g, 0, none⟩) c c) (.slice none 0 0)).toArray = u9 at *
 have HN := Hd hN
 have HM := Hd hM
 have HBB := Hd hB
 clear hN hM hB ho HB HZ HR
 go_wp2_with fail
 exact bodyPost_ret (aJA rfl _ _ rfl HN.out) rfl ⟨_, _, rfl, HM.out, HBB.out⟩
 ) : P := h
theorem aQF (n c : Nat) (d : Int) (w : World) (n8 : n <= 8) (c8 : c <= 8) :
 Calls prog 28 #[.int .i64 n, .int .i64 c, .int .u32 d] w (nJ n c (qQ d) w) := by
 have hmk : ∀ w : World, (Instr.makeSlice 30 (.int .i64 c) (.int .i64 c)).run prog w = .ok (.slice (some ⟨w.heap.size, 0, none⟩) c c) (w.alloc (zR c)) := fun w => aKP c c8 w
 go_enter func28, ntmps28
 go_upto_region 1 with (fail)
 rename_i K7 hK7
 have HK7 := Hd hK7
 clear hK7
 rw [eL]
 have HZ := Hd (aC (jQ (aH (w.alloc fN))) (aD w fN) (lt_of_block (aD w fN)))
 have HB := Hd (jQ (aE (aH w) fN))
 refine wp_region_any (by kernel_rfl) ?_
 try (change wpAny _ _ _ _ _ _ _ (World.drew _))
 generalize (w.alloc fN).drew = W0 at *
 generalize hbn : w.heap.size = b at *
 have HBN := Hd hbn
 clear hbn
 refine wpAny_take (i := 0) (v := .int .i64 n) rfl (by kernel_rfl) (by kernel_rfl) (by kernel_rfl) (fun _ _ _ h => h) (Or.inl ⟨by kernel_rfl, fun w => by go_simp⟩) ?_
 refine wpAny_take (i := 2) (v := .int .i64 c) rfl (by kernel_rfl) (by kernel_rfl) (by kernel_rfl) (fun _ _ _ h => h) (Or.inl ⟨by kernel_rfl, fun w => by go_simp⟩) ?_
 refine wpAny_take (i := 5) (v := .int .u32 d) rfl (by kernel_rfl) (by kernel_rfl) (by kernel_rfl) (fun _ _ _ h => h) (Or.inl ⟨by kernel_rfl, fun w => by go_simp⟩) ?_
 refine wpAny_take (i := 6) (v := .agg (kl (rk0 d)).toArray) rfl (by kernel_rfl) (by kernel_rfl) (by kernel_rfl) (fun _ _ _ h => h) (Or.inl ⟨by kernel_rfl, fun w => by kernel_rfl⟩) ?_
 refine wpAny_ready (rs := [1, 3]) (by kernel_rfl) (by simp) ?_
 refine AllReady.cons rfl (fun K hK => ?_) (AllReady.cons rfl (fun K hK => ?_) AllReady.nil)
 . go_simp
   go_wp2_with (go_at_call 65; refine (aKc n _).mono ?_; rintro e w0 ⟨rfl, b0⟩; have HZ := Hd (aC b0 HZ.out (lt_of_block HZ.out)); have HB := Hd (eX HBN.out HB.out b0); clear b0)
   refine wpAny_ready (rs := [3, 4]) (by kernel_rfl) (by simp) ?_
   refine AllReady.cons rfl (fun K hK => ?_) (AllReady.cons rfl (fun K hK => ?_) AllReady.nil)
   . go_simp
     refine hK _ _ ?_
     clear hK K
     have HR := Hd (aAR c c8 w0)
     have HZ := Hd (aC (aE (aH w0) (zR c)) HZ.out (lt_of_block HZ.out))
     have HB := Hd (eX HBN.out HB.out (aE (aH w0) (zR c)))
     generalize w0.alloc (zR c) = w1 at *
     generalize w0.heap.size = g at *
     refine wpAny_ready (rs := [4]) (by kernel_rfl) (by simp) ?_
     refine AllReady.cons rfl (fun K hK => ?_) AllReady.nil
     go_simp
     go_wp2_with (go_at_call 66; refine (aHn _).mono ?_; rintro e w2 ⟨rfl, b2⟩; have HZ := Hd (aC b2 HZ.out (lt_of_block HZ.out)); have HB := Hd (eX HBN.out HB.out b2); have HR := Hd (HR.out.below b2); clear b2)
     exact qY
   . go_simp
     go_wp2_with (go_at_call 66; refine (aHn _).mono ?_; rintro e w1 ⟨rfl, b1⟩; have HZ := Hd (aC b1 HZ.out (lt_of_block HZ.out)); have HB := Hd (eX HBN.out HB.out b1); clear b1)
     refine wpAny_ready (rs := [3]) (by kernel_rfl) (by simp) ?_
     refine AllReady.cons rfl (fun K hK => ?_) AllReady.nil
     go_simp
     refine hK _ _ ?_
     clear hK K
     have HR := Hd (aAR c c8 w1)
     have HZ := Hd (aC (aE (aH w1) (zR c)) HZ.out (lt_of_block HZ.out))
     have HB := Hd (eX HBN.out HB.out (aE (aH w1) (zR c)))
     generalize w1.alloc (zR c) = w2 at *
     generalize w1.heap.size = g at *
     exact qY
 . go_simp
   refine hK _ _ ?_
   clear hK K
   have HR := Hd (aAR c c8 W0)
   have HZ := Hd (aC (aE (aH W0) (zR c)) HZ.out (lt_of_block HZ.out))
   have HB := Hd (eX HBN.out HB.out (aE (aH W0) (zR c)))
   generalize W0.alloc (zR c) = w0 at *
   generalize W0.heap.size = g at *
   refine wpAny_ready (rs := [1]) (by kernel_rfl) (by simp) ?_
   refine AllReady.cons rfl (fun K hK => ?_) AllReady.nil
   go_simp
   go_wp2_with (go_at_call 65; refine (aKc n _).mono ?_; rintro e w1 ⟨rfl, b1⟩; have HZ := Hd (aC b1 HZ.out (lt_of_block HZ.out)); have HB := Hd (eX HBN.out HB.out b1); have HR := Hd (HR.out.below b1); clear b1)
   refine wpAny_ready (rs := [4]) (by kernel_rfl) (by simp) ?_
   refine AllReady.cons rfl (fun K hK => ?_) AllReady.nil
   go_simp
   go_wp2_with (go_at_call 66; refine (aHn _).mono ?_; rintro e w2 ⟨rfl, b2⟩; have HZ := Hd (aC b2 HZ.out (lt_of_block HZ.out)); have HB := Hd (eX HBN.out HB.out b2); have HR := Hd (HR.out.below b2); clear b2)
   exact qY
section
variable {p g n : Nat} {q : Nat -> Nat} {t : Nat -> Tm} {w : World}
theorem aNg (h : cK w p g n q t) (m i : Int) (hb : iR t 0 n m i) :
 Calls prog 156 #[.pointer (some ⟨p, 0, none⟩)] w fun e w' => e = .returned (.tuple #[.int .u64 m, .int .i64 i]) /\ Below w.heap.size w w' := by
 have n8 := h.rm.n8
 have HBest := Hd hb
 clear hb
 go_enter func156, ntmps156
 go_wp2_with fail
 go_step3
 go_wp2_with fail
 go_step3
 go_wp2_with fail
 refine (aEE h).mono ?_
 rintro e w1 ⟨rfl, rfl⟩
 go_wp2_with fail
 go_loopw [4, 5, 12] (fun a b i wr => ∃ (k : Nat) (M I : Int), k <= n /\ i = .int .i64 k /\ a = .int .u64 M /\ b = .int .i64 I /\ 1 <= M /\ M <= 18446744073709551615 /\ Hid (iR t 0 k M I) /\ cK wr p g n q t /\ Below w.heap.size w wr) (fun a b i wr => n - (intOf i).toNat)
 case atStart => exact ⟨0, nvr, -1, by omega, rfl, rfl, rfl, by decide, by decide, Hd (tL t 0), h, aH w⟩
 case round =>
  clear h
  obtain ⟨k, M, I, hk, rfl, rfl, rfl, M0, M1, hX, H, hB⟩ := hrel
  by_cases hlt : k < n
  . have hc := H.get hlt
    have ht := H.rm.tms k hlt
    have ok := H.rm.ok k hlt
    have oks := Hd H.rm.ok
    have HH := Hd H
    have C := aGn (t k) (q k) wr ok ht
    have hlb := aCg ok
    unfold nvr at hlb
    clear H
    by_cases hl : M <= (t k).lef
    . have HL := Hd hl
      generalize hV : (t k).lef = V at *
      have HV := Hd hV
      clear hV
      go_wp2_with fail
      refine C.mono ?_
      rintro e w2 ⟨rfl, hb⟩
      have H2 := HH.out.below hb
      have hB2 := tr hB hb
      clear HH hc ht hb C
      go_wp2_with fail
      go_roundw
      case rel => exact ⟨k + 1, M, I, by omega, by go_num, rfl, rfl, M0, M1, Hd (hX.out.skip ok (by rw [HV.out]; exact HL.out)), H2, hB2⟩
      case measure => simp [intOf]; omega
    . have HL := Hd (show (t k).lef < M by omega)
      have hl2 : (t k).lef < M := by omega
      clear hl
      have HX2 := Hd (hX.out.take (fun j hj => oks.out j (by omega)) ok hl2)
      generalize (t k).lef = V at *
      go_wp2_with fail
      refine C.mono ?_
      rintro e w2 ⟨rfl, hb⟩
      have H2 := HH.out.below hb
      have hB2 := tr hB hb
      clear HH hc ht hb C
      go_wp2_with fail
      go_roundw
      case rel => exact ⟨k + 1, V, k, by omega, by go_num, rfl, rfl, hlb.1, hlb.2, HX2, H2, hB2⟩
      case measure => simp [intOf]; omega
  . obtain rfl : k = n := by omega
    obtain ⟨e1, e2⟩ := HBest.out.same hX.out
    subst e1 e2
    go_wp2_with fail
    rw [Exit.noGoto_ret]
    go_ret2
    exact ⟨rfl, hB⟩
end
def k1 : Tm := ⟨3, 0, false, false, false, 0, 0, false⟩
def k2 : Tm := ⟨3, 3, true, true, false, 1, 0, false⟩
def k3 : Tm := ⟨3, 1, true, true, false, 1, 1, false⟩
def k4 : Tm := ⟨3, 3, true, true, false, 1, 0, true⟩
theorem aMG (t : Tm) (p : Nat) (w : World) (h : t.ok) (a : jN w p tC t) :
 Calls prog 159 #[.pointer (some ⟨p, 0, none⟩), .agg (rl t).toArray] w fun e w' => e = .returned (.bool true) /\ Below w.heap.size w w' := by
 have A := a.below (aE (aH w) (oM t))
 have M : cX (w.alloc (oM t)) w.heap.size t := aD w (oM t)
 have hB := aE (aH w) (oM t)
 clear a
 go_enter func159, ntmps159
 go_upto_region 1 with (fail)
 rw [show Obj.cells (rl t).toArray 220 (0, 0) = oM t from rfl]
 generalize (w.alloc (oM t)) = W at *
 go_wp2_with fail
 go_loopw [5] (fun i wr => ∃ j : Int, 0 <= j /\ j <= 4 /\ i = .int .u32 (4 * j) /\ jN wr p tC t /\ cX wr w.heap.size t /\ Below w.heap.size w wr) (fun i wr => (20 - intOf i).toNat)
 case atStart => exact ⟨0, by omega, by omega, rfl, A, M, hB⟩
 case round =>
  clear A M hB
  obtain ⟨j, j0, j4, rfl, A, M, hB⟩ := hrel
  by_cases hlt : j < 4
  . have q : 4 * j < 16 := by omega
    obtain ⟨V, hV⟩ : ∃ V, t.val (4 * j) = V := ⟨_, rfl⟩
    obtain ⟨E, hE⟩ : ∃ E, fR (4 * j) = E := ⟨_, rfl⟩
    have CL := Hd (fun w a => by have := aKU t (4 * j) p w h a (by omega) (by omega); rw [hV, hE] at this; exact this)
    have RL := Hd (fun w => by have := aGh t (4 * j) w h (by omega) (by omega); rw [hV, hE] at this; exact this)
    have zV : (V != V) = false := by simp
    have zE : (E != E) = false := by simp
    clear hV hE
    go_wp2_with fail
    refine (CL.out _ A).mono ?_
    rintro e w' ⟨rfl, rfl⟩
    go_wp2_with (refine eE rfl (.tmp 3) rfl rfl M ?_)
    refine (RL.out _).mono ?_
    rintro e w1 ⟨rfl, hb⟩
    have A1 := A.below hb
    have M1 := M.below hb
    have B1 := tr hB hb
    clear A M hB hb CL RL
    go_wp2_with fail
    go_roundw
    case rel => exact ⟨j + 1, by omega, by omega, by go_num, A1, M1, B1⟩
    case measure => simp [intOf]; omega
  . obtain rfl : j = 4 := by omega
    obtain ⟨l, hl⟩ : ∃ l, (t.st && t.iq) = l := ⟨_, rfl⟩
    obtain ⟨V, hV⟩ : ∃ V, t.lef = V := ⟨_, rfl⟩
    have m2 := M.c2
    have m4 := M.c4
    have m7 := M.c7
    have RN := Hd (fun w a => aDp t p w h a)
    have LN := Hd (fun w a => by have := aKT t p w h a; rw [hl] at this; exact this)
    have LF := Hd (fun w a => by have := aGn t p w h a; rw [hV] at this; exact this)
    have ML := Hd (fun w => by have := aGg t w h; rw [hV] at this; exact this)
    have HA := Hd A
    have HM := Hd M
    have hg := bC
    have hlt := M.lt
    clear A M hV
    obtain ⟨en, hen⟩ : ∃ b, t.en = b := ⟨_, rfl⟩
    obtain ⟨iq, hiq⟩ : ∃ b, t.iq = b := ⟨_, rfl⟩
    obtain ⟨st, hst⟩ : ∃ b, t.st = b := ⟨_, rfl⟩
    rw [hen] at m2 RN
    rw [hiq] at m4 hl
    rw [hst] at m7 hl
    clear hen hiq hst
    cases en <;> cases iq <;> cases st
    all_goals
     simp only [Bool.and_true, Bool.and_false, Bool.and_self] at hl
     subst hl
     go_wp2_with fail
     refine wp_region_quiet_below (by kernel_rfl) (by kernel_rfl) ?_
     repeat (first
      | go_big_quiet_skip
      | (go_big_quiet_want; first
          | (refine aMf (.tmp 3) rfl rfl HM.out.grown ?_; go_simp; go_big_quiet_on)
          | (go_big_quiet_op; first
              | go_big_quiet_on
              | go_big_quiet_call (first
                 | (go_at_call 203; exact Calls.regrown_of (RN.out _ (HA.out.below (below_regrown wr _ _))))
                 | (go_at_call 190; exact Calls.regrown_of (LN.out _ (HA.out.below (below_regrown wr _ _))))
                 | (go_at_call 202; exact Calls.regrown_of (LF.out _ (HA.out.below (below_regrown wr _ _))))
                 | (go_at_call 197; exact Calls.regrown_of (ML.out _))))))
     refine wpQuiet_nil ?_
     intro _ hw'
     obtain ⟨⟨dq, osq⟩, hw''⟩ := hw'
     subst hw''
     go_wp2_with fail
     go_ret
     exact ⟨cU (by simp), trG hB _ _⟩
def fHi (t : Nat -> Tm) (i : Nat) : Bool := (t i).st && (t i).iq
def fRn (t : Nat -> Tm) (i : Nat) : Bool := (t i).en
theorem aJc : un 0 = 1 := by decide
theorem aLp {w : World} {g n cap : Nat} {t : Nat -> Tm} (h : eD w g n cap t) (n8 : n <= 8) :
 Calls prog 154 #[.slice (some ⟨g, 0, none⟩) n cap] w fun e w' => e = .returned (.tuple #[.int .u32 (ob (fHi t) n), .int .u32 (ob (fRn t) n)]) /\ w = w' := by
 have hcm := h.cm
 have hnc := h.nc
 have hgl := h.lt
 unfold maxLen at hcm
 have H := Hd h
 clear h
 go_enter func154, ntmps154
 go_wp2_with fail
 go_loopw [4, 5, 6, 7] (fun a b u i wr => ∃ (k : Nat) (X Y U : Int), k <= n /\ i = .int .i64 k /\ a = .int .u32 X /\ b = .int .u32 Y /\ u = .int .u32 U /\ 0 <= X /\ X < 4294967296 /\ 0 <= Y /\ Y < 4294967296 /\ 0 <= U /\ U < 4294967296 /\ Hid (X = ob (fHi t) k) /\ Hid (Y = ob (fRn t) k) /\ Hid (U = un k) /\ wr = w) (fun a b u i wr => n - (intOf i).toNat)
 case atStart => exact ⟨0, 0, 0, 1, by omega, rfl, rfl, rfl, rfl, by omega, by omega, by omega, by omega, by omega, by omega, Hd rfl, Hd rfl, Hd aJc.symm, rfl⟩
 case round =>
  obtain ⟨k, X, Y, U, hk, rfl, rfl, rfl, rfl, X0, X1, Y0, Y1, U0, U1, hX, hY, hU, rfl⟩ := hrel
  by_cases hlt : k < n
  . have c2 := H.out.c hlt 2 _ rfl
    have c4 := H.out.c hlt 4 _ rfl
    have c7 := H.out.c hlt 7 _ rfl
    have bx := aGr (fHi t) k (by omega)
    have bY := aGr (fRn t) k (by omega)
    have yx := Hd (fun q => uR (fHi t) k (by omega) q)
    have nx := Hd (fun q => yM (fHi t) k q)
    have yy := Hd (fun q => uR (fRn t) k (by omega) q)
    have ny := Hd (fun q => yM (fRn t) k q)
    rw [<- hX.out, <- hU.out] at bx
    rw [<- hY.out, <- hU.out] at bY
    have bu := lI (k + 1)
    have us := Hd (aAa k)
    rw [aAa k, <- hU.out] at bu
    have vx : fHi t k = ((t k).st && (t k).iq) := rfl
    have vy : fRn t k = (t k).en := rfl
    generalize (t k).st = s at *
    generalize (t k).iq = q at *
    generalize (t k).en = r at *
    cases r <;> cases s <;> cases q
    all_goals
     have VX := Hd vx
     have VY := Hd vy
     clear vx vy
     go_wp2_with fail
     go_roundw
     case rel =>
      first
      | exact ⟨k + 1, _, _, _, by omega, by go_num, rfl, rfl, rfl, by omega, by omega, by omega, by omega, bu.1, bu.2, Hd (by rw [nx.out VX.out]; exact hX.out), Hd (by rw [ny.out VY.out]; exact hY.out), Hd (by rw [us.out, hU.out]), (by trivial)⟩
      | exact ⟨k + 1, _, _, _, by omega, by go_num, rfl, rfl, rfl, by omega, by omega, by omega, by omega, bu.1, bu.2, Hd (by rw [yx.out VX.out, hX.out, hU.out]), Hd (by rw [ny.out VY.out]; exact hY.out), Hd (by rw [us.out, hU.out]), (by trivial)⟩
      | exact ⟨k + 1, _, _, _, by omega, by go_num, rfl, rfl, rfl, by omega, by omega, by omega, by omega, bu.1, bu.2, Hd (by rw [nx.out VX.out]; exact hX.out), Hd (by rw [yy.out VY.out, hY.out, hU.out]), Hd (by rw [us.out, hU.out]), (by trivial)⟩
      | exact ⟨k + 1, _, _, _, by omega, by go_num, rfl, rfl, rfl, by omega, by omega, by omega, by omega, bu.1, bu.2, Hd (by rw [yx.out VX.out, hX.out, hU.out]), Hd (by rw [yy.out VY.out, hY.out, hU.out]), Hd (by rw [us.out, hU.out]), (by trivial)⟩
     case measure => simp [intOf]; omega
  . obtain rfl : k = n := by omega
    have e1 := hX.out
    have e2 := hY.out
    subst e1 e2
    go_wp2_with fail
    go_ret2
    exact ⟨rfl, rfl⟩
theorem aOG {w : World} {g n cap : Nat} {t : Nat -> Tm} (h : eD w g n cap t) (ok : ∀ i, i < n -> (t i).ok) (n8 : n <= 8) (m i : Int) (hb : iR t 0 n m i) :
 Calls prog 155 #[.slice (some ⟨g, 0, none⟩) n cap] w fun e w' => e = .returned (.tuple #[.int .u64 m, .int .i64 i]) /\ Below w.heap.size w w' := by
 have hcm := h.cm
 have hnc := h.nc
 have hgl := h.lt
 unfold maxLen at hcm
 have OK := Hd ok
 have HBest := Hd hb
 clear ok hb
 go_enter func155, ntmps155
 go_wp2_with fail
 go_loopw [4, 5, 6] (fun a b i wr => ∃ (k : Nat) (M I : Int), k <= n /\ (k = 0 /\ i = .int .i64 (-1) \/ ∃ j : Nat, k = j + 1 /\ i = .int .i64 j) /\ a = .int .u64 M /\ b = .int .i64 I /\ 1 <= M /\ M <= 18446744073709551615 /\ Hid (iR t k n M I) /\ eD wr g n cap t /\ Below w.heap.size w wr) (fun a b i wr => (intOf i + 1).toNat)
 case atStart =>
  refine ⟨n, nvr, -1, by omega, ?_, rfl, rfl, by decide, by decide, Hd (tL t n), h, aH w⟩
  by_cases h0 : n = 0
  . exact .inl ⟨h0, zS (by omega)⟩
  . exact .inr ⟨n - 1, by omega, zS (by omega)⟩
 case round =>
  clear h
  obtain ⟨k, M, I, hk, hki, rfl, rfl, M0, M1, hX, H, hB⟩ := hrel
  rcases hki with ⟨rfl, rfl⟩ | ⟨j, rfl, rfl⟩
  . obtain ⟨e1, e2⟩ := HBest.out.same hX.out
    subst e1 e2
    go_wp2_with fail
    go_ret2
    exact ⟨rfl, hB⟩
  . have hj : j < n := by omega
    have c2 := H.c hj 2 _ rfl
    have hin := H.at hj
    have ok := OK.out j hj
    have hL := ok.left
    have fin : ∀ M' I' : Int, j <= n /\ (j = 0 /\ Value.int .i64 ((j : Int) - 1) = .int .i64 (-1) \/ ∃ i : Nat, j = i + 1 /\ Value.int .i64 ((j : Int) - 1) = .int .i64 i) := fun _ _ => by
     refine ⟨by omega, ?_⟩
     by_cases h0 : j = 0
     . exact .inl ⟨h0, zS (by omega)⟩
     . exact .inr ⟨j - 1, by omega, zS (by omega)⟩
    have FIN := Hd (fin 0 0)
    clear fin
    cases he : (t j).en
    . rw [he] at c2
      have HX := Hd (hX.out.keep ok (fun e => by rw [he] at e; cases e))
      have HH := Hd H
      clear H he hin
      go_wp2_with fail
      go_roundw
      case rel => exact ⟨j, M, I, FIN.out.1, FIN.out.2, rfl, rfl, M0, M1, HX, HH.out, hB⟩
      case measure => simp [intOf]
    . rw [he] at c2
      have hlf : (t j).lef = (t j).left := by unfold Tm.lef; rw [if_pos he]
      have C := fun w => aGg (t j) w ok
      rw [hlf] at C
      by_cases hl : (t j).left <= M
      . have HX := Hd (hX.out.put hj he hl)
        generalize (t j).left = V at *
        have CL := Hd C
        have HH := Hd H
        clear H he C hlf
        go_wp2_with (refine aGb (.tmp 22) rfl rfl rfl hin ?_)
        refine (CL.out _).mono ?_
        rintro e w1 ⟨rfl, hb⟩
        have hin1 := hin.below hb
        have H1 := HH.out.below hb
        have B1 := tr hB hb
        clear hin HH hB hb c2
        go_wp2_with (refine aDg rfl (.tmp 30) rfl rfl hin1 ?_)
        refine (CL.out _).mono ?_
        rintro e w2 ⟨rfl, hb⟩
        have H2 := H1.below hb
        have B2 := tr B1 hb
        clear hin1 H1 B1 hb
        go_wp2_with fail
        go_roundw
        case rel => exact ⟨j, V, j, FIN.out.1, FIN.out.2, rfl, rfl, hL.1, by omega, HX, H2, B2⟩
        case measure => simp [intOf]
      . have HX := Hd (hX.out.keep ok (fun _ => by omega))
        have hl2 : M < (t j).left := by omega
        generalize (t j).left = V at *
        have CL := Hd C
        have HH := Hd H
        clear H he C hlf
        go_wp2_with (refine aGb (.tmp 22) rfl rfl rfl hin ?_)
        refine (CL.out _).mono ?_
        rintro e w1 ⟨rfl, hb⟩
        have H2 := HH.out.below hb
        have B2 := tr hB hb
        clear hin HH hB hb c2
        go_wp2_with fail
        go_roundw
        case rel => exact ⟨j, M, I, FIN.out.1, FIN.out.2, rfl, rfl, M0, M1, HX, H2, B2⟩
        case measure => simp [intOf]
end Go.Proofs.YtaohacadochldaaGreat.B
