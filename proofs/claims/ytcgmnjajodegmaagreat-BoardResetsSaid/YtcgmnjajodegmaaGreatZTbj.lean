/- Several texts in one: The document's board: a word stored, whatever the address. A board's words: loaded and stored. -/
import Derived.Test.YtcgmnjajodegmaaGreatZTba
import Derived.Test.YtcgmnjajodegmaaGreatZTbi
set_option linter.unusedVariables false
set_option linter.unusedSimpArgs false
set_option maxRecDepth 100000
namespace Go.Proofs.YtcgmnjajodegmaaGreat.B
open Go.ChangeShapes Go.WideShapes Go.RowKit Go.Sort
set_option maxHeartbeats 3200000 in
theorem ySt_ln4 (n c : Nat) (x : Bx) (bk ev : Value) (a v : Int) (w : World) (M : MV w c x bk ev) (ok : x.ok n c) (hs : x.still) (a0 : 0 <= a) (a1 : a < 4294967296) (v0 : 0 <= v) (v1 : v < 4294967296) (hl : x.es.length < 4294967296) (h4 : a % 4 = 0) (g0 : 268763136 <= a) (g1 : a < 268763148) (e : wh a = .ln (a - 268763136)) (ho : a - 268763136 = 4) : Calls Tryz.prog 43 #[.agg (ml n x bk ev).toArray, .int .u32 a, .int .u32 v] w (StPost n c (({ x with msk := v } : Bx)) (0) w) := by
 have HFI := Hd (show fI a = (5, a - 268763136, true) by unfold fI; rw [e])
 have O0 : 0 <= a - 268763136 := by omega
 have O1 : a - 268763136 < 4294967296 := by omega
 have HO4 := Hd ho
 have HFA := Hd (show (({ x with msk := v } : Bx)).wd.fa = 0 from hs.1)
 have HQS := Hd (show (({ x with msk := v } : Bx)).rs.qs = false from hs.2)
 clear ho
 have one := M.one
 have hfr := fr_new w n x bk ev one
 have hM0 := M.below (trA (trA (tr0 w) (oM11 n x bk ev)) zM11)
 obtain ⟨gk, capk, rfl, hrk⟩ := M.k
 have HOK := Hd ok
 have HST := Hd hs
 have HLN := Hd hl
 have HA := Hd (show 0 <= a /\ a < 4294967296 from ⟨a0, a1⟩)
 clear hrk ok hl hs
 have H4 := Hd h4
 go_enter Tryz.func43, Tryz.ntmps43
 go_upto_region 1 with (fail)
 rw [oM11_eq, zM11_eq]
 generalize ((w.alloc (oM11 n x (.slice (some ⟨gk, 0, none⟩) c capk) ev)).alloc zM11) = W at *
 generalize w.heap.size + 1 = r at *
 generalize hbn : w.heap.size = b at *
 have HF := Hd hfr
 have HM := Hd hM0
 clear hfr hM0 M one hbn
 go_upto_region 20 with (first | (go_at_call 88; refine (yFind a _ HA.out.1 HA.out.2 H4.out).mono ?_; rw [HFI.out]; rintro e w1 ⟨rfl, b1⟩; have HF := Hd (HF.out.below b1); have HM := Hd (HM.out.below b1); clear b1) | (refine nLoadB rfl (.tmp 3) rfl rfl HF.out.h ?_) | (go_at_call 44; refine (yLines n c x _ ev _ HM.out HOK.out).mono ?_; rintro e w2 ⟨rfl, b1⟩; have HF := Hd (HF.out.below b1); have HM := Hd (HM.out.below b1); clear b1) | (rw [zL4_eq]; refine store27 rfl (.tmp 12) (.tmp 85) rfl _ rfl (fH n c x) (bit x.msk) rfl (blk_new w2 zL4) (by simp [lcs_len]) ?_; have hBl := below_setRow (trA (tr0 w2) zL4) (lcs (fH n c x) (bit x.msk)).toArray (g := w2.heap.size) (Nat.le_refl _); have HD := Hd (show QAt ((w2.alloc zL4).setRow w2.heap.size (lcs (fH n c x) (bit x.msk)).toArray) w2.heap.size (fH n c x) (bit x.msk) from row_set _ (blk_new w2 zL4)); have HLT := Hd (show b < w2.heap.size /\ r < w2.heap.size /\ w.heap.size <= w2.heap.size from ⟨HF.out.lt.1, HF.out.lt.2, HF.out.lo.size⟩); have HF := Hd (HF.out.below hBl); have HM := Hd (HM.out.below hBl); clear hBl; generalize (w2.alloc zL4).setRow w2.heap.size (lcs (fH n c x) (bit x.msk)).toArray = w4 at *; generalize w2.heap.size = q at *))
 go_upto_region 21 with (first | (refine load27 rfl (.tmp 12) rfl q rfl (fH n c x) (bit x.msk) HD.out ?_) | (go_at_call 100; rw [HO4.out]; refine (rStore4 (fH n c x) (bit x.msk) v _ v0 v1).mono ?_; rintro e w5 ⟨rfl, b1⟩; have HD := Hd (HD.out.below b1); have HF := Hd (HF.out.below b1); have HM := Hd (HM.out.below b1); clear b1) | (refine store27 rfl (.tmp 12) (.tmp 91) rfl q rfl (fH n c x) (bit v) rfl HD.out (by simp [lcs_len]) ?_; have ho := offW_row w5 q (lcs (fH n c x) (bit v)).toArray; have HM := Hd (mv_offq HM.out ho HD.out); have HF := Hd (HF.out.other ho (fun e => by have := HLT.out; omega) (fun e => by have := HLT.out; omega) (fun k hk e => by have := HLT.out; omega)); have HD := Hd (show QAt (w5.setRow q (lcs (fH n c x) (bit v)).toArray) q (fH n c x) (bit v) from row_set _ HD.out); clear ho; generalize w5.setRow q (lcs (fH n c x) (bit v)).toArray = w6 at *))
 go_upto_region 22 with (first | (refine load25 rfl (.tmp 93) rfl q 32 rfl (bit v) HD.out (lcs_partR _ _) ?_) | (refine nStoreM rfl (.tmp 95) (.tmp 94) rfl rfl v rfl HF.out ?_; intro w7 hF2 ho2; have HM := Hd (mv_off HM.out ho2 HF.out.h); have HF := Hd hF2; clear hF2 ho2))
 have HF := Hd (HF.out.like ({ x with msk := v } : Bx))
 have HM := Hd (HM.out.like ({ x with msk := v } : Bx))
 have cF := HF.out.h.cF
 have cQ := HF.out.h.cQ
 rw [HFA.out] at cF
 rw [HQS.out] at cQ
 go_wp2_with (first | (refine nLoadB rfl (.tmp 3) rfl rfl HF.out.h ?_) | (obtain ⟨cz, hz1, hz2⟩ := HF.out.z; refine nStoreB rfl (.tmp 6) (.tmp 110) rfl rfl ({ x with msk := v } : Bx) (.slice (some ⟨gk, 0, none⟩) c capk) _ n rfl hz1 hz2 HF.out.one ?_; intro u10 hN10 ho10; have HX := Hd (doc_end3 HF.out HM.out hN10 ho10); have HN10 := Hd hN10; clear hN10 ho10 hz1 hz2))
 exact bodyPost_ret (resN2 rfl _ _ _ rfl rfl HN10.out) rfl ⟨_, _, rfl, HX.out.1, HX.out.2⟩
set_option maxHeartbeats 3200000 in
theorem ySt_lnN (n c : Nat) (x : Bx) (bk ev : Value) (a v : Int) (w : World) (M : MV w c x bk ev) (ok : x.ok n c) (hs : x.still) (a0 : 0 <= a) (a1 : a < 4294967296) (v0 : 0 <= v) (v1 : v < 4294967296) (hl : x.es.length < 4294967296) (h4 : a % 4 = 0) (g0 : 268763136 <= a) (g1 : a < 268763148) (e : wh a = .ln (a - 268763136)) (ho : a - 268763136 ≠ 4) : Calls Tryz.prog 43 #[.agg (ml n x bk ev).toArray, .int .u32 a, .int .u32 v] w (StPost n c (x) (sErr (a - 268763136)) w) := by
 have HFI := Hd (show fI a = (5, a - 268763136, true) by unfold fI; rw [e])
 have O0 : 0 <= a - 268763136 := by omega
 have O1 : a - 268763136 < 4294967296 := by omega
 have HO4 := Hd ho
 have HFA := Hd (show (x).wd.fa = 0 from hs.1)
 have HQS := Hd (show (x).rs.qs = false from hs.2)
 clear ho
 have one := M.one
 have hfr := fr_new w n x bk ev one
 have hM0 := M.below (trA (trA (tr0 w) (oM11 n x bk ev)) zM11)
 obtain ⟨gk, capk, rfl, hrk⟩ := M.k
 have HOK := Hd ok
 have HST := Hd hs
 have HLN := Hd hl
 have HA := Hd (show 0 <= a /\ a < 4294967296 from ⟨a0, a1⟩)
 clear hrk ok hl hs
 have H4 := Hd h4
 go_enter Tryz.func43, Tryz.ntmps43
 go_upto_region 1 with (fail)
 rw [oM11_eq, zM11_eq]
 generalize ((w.alloc (oM11 n x (.slice (some ⟨gk, 0, none⟩) c capk) ev)).alloc zM11) = W at *
 generalize w.heap.size + 1 = r at *
 generalize hbn : w.heap.size = b at *
 have HF := Hd hfr
 have HM := Hd hM0
 clear hfr hM0 M one hbn
 go_upto_region 20 with (first | (go_at_call 88; refine (yFind a _ HA.out.1 HA.out.2 H4.out).mono ?_; rw [HFI.out]; rintro e w1 ⟨rfl, b1⟩; have HF := Hd (HF.out.below b1); have HM := Hd (HM.out.below b1); clear b1) | (refine nLoadB rfl (.tmp 3) rfl rfl HF.out.h ?_) | (go_at_call 44; refine (yLines n c x _ ev _ HM.out HOK.out).mono ?_; rintro e w2 ⟨rfl, b1⟩; have HF := Hd (HF.out.below b1); have HM := Hd (HM.out.below b1); clear b1) | (rw [zL4_eq]; refine store27 rfl (.tmp 12) (.tmp 85) rfl _ rfl (fH n c x) (bit x.msk) rfl (blk_new w2 zL4) (by simp [lcs_len]) ?_; have hBl := below_setRow (trA (tr0 w2) zL4) (lcs (fH n c x) (bit x.msk)).toArray (g := w2.heap.size) (Nat.le_refl _); have HD := Hd (show QAt ((w2.alloc zL4).setRow w2.heap.size (lcs (fH n c x) (bit x.msk)).toArray) w2.heap.size (fH n c x) (bit x.msk) from row_set _ (blk_new w2 zL4)); have HLT := Hd (show b < w2.heap.size /\ r < w2.heap.size /\ w.heap.size <= w2.heap.size from ⟨HF.out.lt.1, HF.out.lt.2, HF.out.lo.size⟩); have HF := Hd (HF.out.below hBl); have HM := Hd (HM.out.below hBl); clear hBl; generalize (w2.alloc zL4).setRow w2.heap.size (lcs (fH n c x) (bit x.msk)).toArray = w4 at *; generalize w2.heap.size = q at *))
 go_upto_region 21 with (first | (refine load27 rfl (.tmp 12) rfl q rfl (fH n c x) (bit x.msk) HD.out ?_) | (go_at_call 100; refine (rStoreNo (fH n c x) (bit x.msk) (a - 268763136) v _ O0 O1 HO4.out).mono ?_; rintro e w5 ⟨rfl, b1⟩; have HD := Hd (HD.out.below b1); have HF := Hd (HF.out.below b1); have HM := Hd (HM.out.below b1); clear b1) | (refine store27 rfl (.tmp 12) (.tmp 91) rfl q rfl (fH n c x) (bit x.msk) rfl HD.out (by simp [lcs_len]) ?_; have ho := offW_row w5 q (lcs (fH n c x) (bit x.msk)).toArray; have HM := Hd (mv_offq HM.out ho HD.out); have HF := Hd (HF.out.other ho (fun e => by have := HLT.out; omega) (fun e => by have := HLT.out; omega) (fun k hk e => by have := HLT.out; omega)); have HD := Hd (show QAt (w5.setRow q (lcs (fH n c x) (bit x.msk)).toArray) q (fH n c x) (bit x.msk) from row_set _ HD.out); clear ho; generalize w5.setRow q (lcs (fH n c x) (bit x.msk)).toArray = w6 at *))
 go_upto_region 22 with (first | (refine load25 rfl (.tmp 93) rfl q 32 rfl (bit x.msk) HD.out (lcs_partR _ _) ?_) | (refine nStoreM rfl (.tmp 95) (.tmp 94) rfl rfl x.msk rfl HF.out ?_; intro w7 hF2 ho2; have HM := Hd (mv_off HM.out ho2 HF.out.h); have HF := Hd hF2; clear hF2 ho2))
 have HF := Hd (HF.out.like x)
 have HM := Hd (HM.out.like x)
 have cF := HF.out.h.cF
 have cQ := HF.out.h.cQ
 rw [HFA.out] at cF
 rw [HQS.out] at cQ
 go_wp2_with (first | (refine nLoadB rfl (.tmp 3) rfl rfl HF.out.h ?_) | (obtain ⟨cz, hz1, hz2⟩ := HF.out.z; refine nStoreB rfl (.tmp 6) (.tmp 110) rfl rfl x (.slice (some ⟨gk, 0, none⟩) c capk) _ n rfl hz1 hz2 HF.out.one ?_; intro u10 hN10 ho10; have HX := Hd (doc_end3 HF.out HM.out hN10 ho10); have HN10 := Hd hN10; clear hN10 ho10 hz1 hz2))
 exact bodyPost_ret (resN2 rfl _ _ _ rfl rfl HN10.out) rfl ⟨_, _, rfl, HX.out.1, HX.out.2⟩
theorem yStore (n c : Nat) (x : Bx) (bk ev : Value) (a v : Int) (w : World) (M : MV w c x bk ev) (ok : x.ok n c) (hs : x.still) (a0 : 0 <= a) (a1 : a < 4294967296) (v0 : 0 <= v) (v1 : v < 4294967296) (hl : x.es.length < 4294967296) : Calls Tryz.prog 43 #[.agg (ml n x bk ev).toArray, .int .u32 a, .int .u32 v] w (StPost n c (x.sto n c a v) (Bx.ste n c a) w) := by
 have hpk := Bx.put_ok ok (a := a) v0 v1
 have hpc := Bx.put_isC (n := n) (c := c) hs a v
 rcases wh_all a with ⟨g, e⟩ | ⟨g4, g0, g1, e⟩ | ⟨g4, g0, g1, e⟩ | ⟨g4, g0, g1, e⟩ | ⟨g4, g0, g1, e⟩ | ⟨g4, g0, g1, e⟩ | ⟨g4, g0, g1, e⟩ | ⟨g4, g, e⟩
 . have hp : x.put n c a v = x := by unfold Bx.put; rw [e]
   rw [sto_A hp hs.1 hs.2, show Bx.ste n c a = 11 by unfold Bx.ste; rw [e]]
   exact yStOdd n c x bk ev a v w M ok hs a0 a1 v0 v1 hl g
 . have hp : x.put n c a v = ({ x with D := cPutD n x.D (a - 33554432) v, S := cPutS n x.S (a - 33554432) v } : Bx) := by unfold Bx.put; rw [e]
   rw [hp] at hpk hpc
   rw [show Bx.ste n c a = cErrS n (a - 33554432) by unfold Bx.ste; rw [e]]
   rw [sto_A hp hs.1 hs.2]
   exact ySt_clA n c x bk ev a v w M ok hs a0 a1 v0 v1 hl g4 g0 g1 e hpk hs.1 hs.2
 . have hp : x.put n c a v = ({ x with tm := kSto c x.tm (a - 268500992) v } : Bx) := by unfold Bx.put; rw [e]
   rw [hp] at hpk hpc
   rw [show Bx.ste n c a = kSErr c (a - 268500992) by unfold Bx.ste; rw [e]]
   rw [sto_A hp hs.1 hs.2]
   exact ySt_bkA n c x bk ev a v w M ok hs a0 a1 v0 v1 hl g4 g0 g1 e hpk hs.1 hs.2
 . have hp : x.put n c a v = ({ x with wd := x.wd.sto (a - 268566528) v } : Bx) := by unfold Bx.put; rw [e]
   rw [hp] at hpk hpc
   rw [show Bx.ste n c a = wSErr (a - 268566528) by unfold Bx.ste; rw [e]]
   by_cases hf : (({ x with wd := x.wd.sto (a - 268566528) v } : Bx)).wd.fa = 0
   . rw [sto_A hp hf hs.2]
     exact ySt_dgA n c x bk ev a v w M ok hs a0 a1 v0 v1 hl g4 g0 g1 e hpk hf hs.2
   . rw [sto_B hp hf hs.2]
     have hd : (({ x with wd := x.wd.sto (a - 268566528) v } : Bx)).due = (({ x with wd := x.wd.sto (a - 268566528) v } : Bx)).wd.fa := by simp only [Bx.due]; rw [show x.rs.qs = false from hs.2]; rfl
     rw [hd] at hpc
     exact ySt_dgB n c x bk ev a v w M ok hs a0 a1 v0 v1 hl g4 g0 g1 e hpk hf hs.2 (Bx.rst_still (hpc.resolve_left hf)).2
 . have hp : x.put n c a v = ({ x with rs := x.rs.sto (a - 268632064) v } : Bx) := by unfold Bx.put; rw [e]
   rw [hp] at hpk hpc
   rw [show Bx.ste n c a = wErr9 (a - 268632064) by unfold Bx.ste; rw [e]]
   by_cases hq : (({ x with rs := x.rs.sto (a - 268632064) v } : Bx)).rs.qs = true
   . rw [sto_C hp hq]
     exact ySt_rsC n c x bk ev a v w M ok hs a0 a1 v0 v1 hl g4 g0 g1 e hpk hs.1 hq
   . have hq : (({ x with rs := x.rs.sto (a - 268632064) v } : Bx)).rs.qs = false := by simpa using hq
     rw [sto_A hp hs.1 hq]
     exact ySt_rsA n c x bk ev a v w M ok hs a0 a1 v0 v1 hl g4 g0 g1 e hpk hs.1 hq
 . have hp : x.put n c a v = ({ x with rk := x.rk.sto (a - 268697600) v } : Bx) := by unfold Bx.put; rw [e]
   rw [hp] at hpk hpc
   rw [show Bx.ste n c a = wErrT (a - 268697600) by unfold Bx.ste; rw [e]]
   rw [sto_A hp hs.1 hs.2]
   exact ySt_rkA n c x bk ev a v w M ok hs a0 a1 v0 v1 hl g4 g0 g1 e hpk hs.1 hs.2
 . by_cases ho : a - 268763136 = 4
   . have hp : x.put n c a v = ({ x with msk := v } : Bx) := by unfold Bx.put; rw [e]; exact if_pos ho
     rw [sto_A hp hs.1 hs.2, show Bx.ste n c a = 0 by unfold Bx.ste; rw [e]; show sErr (a - 268763136) = 0; rw [ho]; rfl]
     exact ySt_ln4 n c x bk ev a v w M ok hs a0 a1 v0 v1 hl g4 g0 g1 e ho
   . have hp : x.put n c a v = x := by unfold Bx.put; rw [e]; exact if_neg ho
     rw [sto_A hp hs.1 hs.2, show Bx.ste n c a = sErr (a - 268763136) by unfold Bx.ste; rw [e]]
     exact ySt_lnN n c x bk ev a v w M ok hs a0 a1 v0 v1 hl g4 g0 g1 e ho
 . have hp : x.put n c a v = x := by unfold Bx.put; rw [e]
   rw [sto_A hp hs.1 hs.2, show Bx.ste n c a = 10 by unfold Bx.ste; rw [e]]
   exact yStNo n c x bk ev a v w M ok hs a0 a1 v0 v1 hl g4 e
theorem bdLoad (B : Bp) (x : Bx) (a : Int) (w : World) (H : BdAt w B x) (a0 : 0 <= a) (a1 : a < 4294967296) :
 Calls Tryz.prog 31 #[.pointer (some ⟨B.b, 0, none⟩), .int .u32 a] w fun e w' => e = .returned (.tuple #[.int .u32 (x.ldv B.n B.c a), .int .i64 (Bx.lde B.n B.c a)]) /\ Below w.heap.size w w' := by
 have hf0 := fB2
 have HH := Hd H
 have HN := Hd (bdNow B x w H)
 clear H
 go_enter Tryz.func31, Tryz.ntmps31
 go_wp2_with fail
 refine (HN.out).mono ?_
 rintro e w1 ⟨rfl, hb1⟩
 have HH1 := Hd (HH.out.below hb1)
 have HB1 := Hd hb1
 clear hb1
 go_wp2_with fail
 refine (bdBusLoad a HH1.out a0 a1).mono ?_
 rintro e w2 ⟨rfl, hb2⟩
 go_wp2_with fail
 go_ret2
 exact ⟨rfl, tr HB1.out hb2⟩
def Left (B : Bp) (y : Bx) (w w' : World) : Prop := ∃ ev', BdAt w' { B with ev := ev' } y /\ Off B.own w w' /\ ∀ k, ev'.ownBlock = some k -> B.ev.ownBlock = some k \/ w.heap.size <= k
theorem left_of {B : Bp} {y : Bx} {w w' : World} (H : BdRaw w' B y (wires B.n B.c y)) (ok : y.ok B.n B.c) (st : y.still) (ho : Off B.own w w') : Left B y w w' :=
 ⟨B.ev, H.done ok st, ho, fun k hk => .inl hk⟩
theorem left_ev {B : Bp} {y : Bx} {ev' : Value} {w w' : World} (H : BdRaw w' { B with ev := ev' } y (wires B.n B.c y)) (ok : y.ok B.n B.c) (st : y.still) (ho : Off B.own w w') (he : ∀ k, ev'.ownBlock = some k -> B.ev.ownBlock = some k \/ w.heap.size <= k) : Left B y w w' :=
 ⟨ev', H.done ok st, ho, he⟩
theorem bdStoreErr (B : Bp) (x : Bx) (a v : Int) (w : World) (H : BdAt w B x) (a0 : 0 <= a) (a1 : a < 4294967296) (v0 : 0 <= v) (v1 : v < 4294967296) (hE : Bx.ste B.n B.c a ≠ 0) :
 Calls Tryz.prog 28 #[.pointer (some ⟨B.b, 0, none⟩), .int .u32 a, .int .u32 v] w fun e w' => e = .returned (.int .i64 (Bx.ste B.n B.c a)) /\ Left B (x.sto B.n B.c a v) w w' := by
 have hf0 := fB2
 have HOK := Hd (Bx.put_ok (a := a) H.ok v0 v1)
 have HST := Hd (Bx.sto_ok (a := a) H.ok H.still v0 v1)
 have HP := Hd (Bx.put_err (n := B.n) (c := B.c) (x := x) (v := v) hE)
 have HS := Hd (show x.sto B.n B.c a v = x by unfold Bx.sto; rw [Bx.put_err hE, Bx.look_still H.still])
 generalize hg : Bx.ste B.n B.c a = E at *
 have HG := Hd hg
 have hE1 : (E != 0) = true := by simpa using hE
 clear hg
 have HH := Hd H
 have HN := Hd (bdNow B x w H)
 clear H
 go_enter Tryz.func28, Tryz.ntmps28
 go_wp2_with fail
 refine (HN.out).mono ?_
 rintro e w1 ⟨rfl, hb1⟩
 have HH1 := Hd (HH.out.below hb1)
 have HB1 := Hd (Off.ofBelow (S := B.own) hb1)
 clear hb1
 go_wp2_with fail
 refine (bdBusStore a v HH1.out a0 a1 v0 v1).mono ?_
 rw [HG.out]
 rintro e w2 ⟨rfl, ho2, d2⟩
 have HD := Hd d2
 have HO := Hd ho2
 clear d2 ho2
 go_wp2_with fail
 go_ret
 refine ⟨rfl, ?_⟩
 rw [HS.out]
 have d := HD.out
 rw [HP.out] at d
 exact left_of (HH1.out.raw.turn d HO.out rfl) HH1.out.ok HH1.out.still (HB1.out.trans (offOwn HO.out))
theorem put_es {n c : Nat} (x : Bx) (a v : Int) : (x.put n c a v).es = x.es := by
 unfold Bx.put
 split <;> first | rfl | (split <;> rfl)
theorem bdStoreStill (B : Bp) (x : Bx) (a v : Int) (w : World) (H : BdAt w B x) (a0 : 0 <= a) (a1 : a < 4294967296) (v0 : 0 <= v) (v1 : v < 4294967296) (hE : Bx.ste B.n B.c a = 0) (hD : (x.put B.n B.c a v).due = 0) :
 Calls Tryz.prog 28 #[.pointer (some ⟨B.b, 0, none⟩), .int .u32 a, .int .u32 v] w fun e w' => e = .returned (.int .i64 (Bx.ste B.n B.c a)) /\ Left B (x.sto B.n B.c a v) w w' := by
 have hf0 := fB2
 have HOK := Hd (Bx.put_ok (a := a) H.ok v0 v1)
 have HST := Hd (Bx.sto_ok (a := a) H.ok H.still v0 v1)
 have HS := Hd (show x.sto B.n B.c a v = x.put B.n B.c a v by unfold Bx.sto Bx.look; rw [if_pos hD])
 have HDU := Hd hD
 have HE := Hd hE
 rw [hE]
 clear hD hE
 have HH := Hd H
 have HN := Hd (bdNow B x w H)
 clear H
 go_enter Tryz.func28, Tryz.ntmps28
 go_wp2_with fail
 refine (HN.out).mono ?_
 rintro e w1 ⟨rfl, hb1⟩
 have HH1 := Hd (HH.out.below hb1)
 have HB1 := Hd (Off.ofBelow (S := B.own) hb1)
 clear hb1
 go_wp2_with fail
 refine (bdBusStore a v HH1.out a0 a1 v0 v1).mono ?_
 rw [HE.out]
 rintro e w2 ⟨rfl, ho2, d2⟩
 have R2 := HH1.out.raw.turn d2 ho2 (put_es x a v)
 have hX2 := R2.cells
 have c0 := blk_cell hX2 0
 have c1 := blk_cell hX2 1
 have c2 := blk_cell hX2 2
 have c3 := blk_cell hX2 3
 have c4 := blk_cell hX2 4
 have c5 := blk_cell hX2 5
 simp only [List.getElem?_toArray, List.getElem?_cons_zero, List.getElem?_cons_succ] at c0 c1 c2 c3 c4 c5
 have hB2 := HB1.out.trans (offOwn ho2)
 have HR2 := Hd R2
 have HB2 := Hd hB2
 clear R2 hX2 hB2 d2 ho2
 go_wp2_with fail
 refine (zDue B _ _ _ HR2.out.dv HOK.out).mono ?_
 rw [HDU.out]
 rintro e w3 ⟨rfl, hb3⟩
 have R3 := HR2.out.below hb3
 have hX3 := R3.cells
 have d0 := blk_cell hX3 0
 have d1 := blk_cell hX3 1
 have d2 := blk_cell hX3 2
 have d3 := blk_cell hX3 3
 have d4 := blk_cell hX3 4
 have d5 := blk_cell hX3 5
 simp only [List.getElem?_toArray, List.getElem?_cons_zero, List.getElem?_cons_succ] at d0 d1 d2 d3 d4 d5
 have HR3 := Hd R3
 have HB3 := Hd (HB2.out.trans (Off.ofBelow (S := B.own) hb3))
 clear R3 hX3 hb3 c0 c1 c2 c3 c4 c5
 go_wp2_with fail
 refine (zWire B _ _ _ HR3.out.dv HOK.out).mono ?_
 rintro e w4 ⟨rfl, d4, ho4⟩
 have HL := Hd (left_of (HR3.out.turn d4 ho4 rfl) (HS.out ▸ HST.out.1) (HS.out ▸ HST.out.2) (HB3.out.trans (offOwn ho4)))
 clear d4 ho4
 go_wp2_with fail
 go_ret
 refine ⟨rfl, ?_⟩
 rw [HS.out]
 exact HL.out
theorem bdStoreRst (B : Bp) (x : Bx) (a v : Int) (w : World) (H : BdAt w B x) (a0 : 0 <= a) (a1 : a < 4294967296) (v0 : 0 <= v) (v1 : v < 4294967296) (hE : Bx.ste B.n B.c a = 0) (hD : (x.put B.n B.c a v).due ≠ 0) (hl : x.es.length < 4294967296) :
 Calls Tryz.prog 28 #[.pointer (some ⟨B.b, 0, none⟩), .int .u32 a, .int .u32 v] w fun e w' => e = .returned (.int .i64 (Bx.ste B.n B.c a)) /\ Left B (x.sto B.n B.c a v) w w' := by
 have hf0 := fB2
 have HOK := Hd (Bx.put_ok (a := a) H.ok v0 v1)
 have HST := Hd (Bx.sto_ok (a := a) H.ok H.still v0 v1)
 have HS := Hd (show x.sto B.n B.c a v = (x.put B.n B.c a v).rst (x.put B.n B.c a v).due by unfold Bx.sto Bx.look; rw [if_neg hD])
 have HLE := Hd (show (x.put B.n B.c a v).es.length < 4294967296 by rw [put_es]; exact hl)
 have HE := Hd hE
 rw [hE]
 generalize hdu : (x.put B.n B.c a v).due = du at *
 have hD1 : (du != 0) = true := by simpa using hD
 have HDU := Hd hdu
 clear hD hE hdu
 have HH := Hd H
 have HN := Hd (bdNow B x w H)
 clear H
 go_enter Tryz.func28, Tryz.ntmps28
 go_wp2_with fail
 refine (HN.out).mono ?_
 rintro e w1 ⟨rfl, hb1⟩
 have HH1 := Hd (HH.out.below hb1)
 have HB1 := Hd (Off.ofBelow (S := B.own) hb1)
 clear hb1
 go_wp2_with fail
 refine (bdBusStore a v HH1.out a0 a1 v0 v1).mono ?_
 rw [HE.out]
 rintro e w2 ⟨rfl, ho2, d2⟩
 have R2 := HH1.out.raw.turn d2 ho2 (put_es x a v)
 have hX2 := R2.cells
 have c0 := blk_cell hX2 0
 have c1 := blk_cell hX2 1
 have c2 := blk_cell hX2 2
 have c3 := blk_cell hX2 3
 have c4 := blk_cell hX2 4
 have c5 := blk_cell hX2 5
 simp only [List.getElem?_toArray, List.getElem?_cons_zero, List.getElem?_cons_succ] at c0 c1 c2 c3 c4 c5
 have hB2 := HB1.out.trans (offOwn ho2)
 have HR2 := Hd R2
 have HB2 := Hd hB2
 clear R2 hX2 hB2 d2 ho2
 go_wp2_with fail
 refine (zDue B _ _ _ HR2.out.dv HOK.out).mono ?_
 rw [HDU.out]
 rintro e w3 ⟨rfl, hb3⟩
 have R3 := HR2.out.below hb3
 have hX3 := R3.cells
 have HR3 := Hd R3
 have HB3 := Hd (HB2.out.trans (Off.ofBelow (S := B.own) hb3))
 clear R3 hX3 hb3 c0 c1 c2 c3 c4 c5
 go_wp2_with fail
 refine (bdReset B _ _ du _ HR3.out HOK.out HLE.out).mono ?_
 rintro e w4 ⟨rfl, ev', R4, ho4, he4⟩
 have hX4 := R4.cells
 have d0 := blk_cell hX4 0
 have d1 := blk_cell hX4 1
 have d2 := blk_cell hX4 2
 have d3 := blk_cell hX4 3
 have d4 := blk_cell hX4 4
 have d5 := blk_cell hX4 5
 simp only [List.getElem?_toArray, List.getElem?_cons_zero, List.getElem?_cons_succ] at d0 d1 d2 d3 d4 d5
 have HR4 := Hd R4
 have HB4 := Hd (HB3.out.trans ho4)
 have HE4 := Hd (show ∀ k, ev'.ownBlock = some k -> B.ev.ownBlock = some k \/ w.heap.size <= k from fun k hk => (he4 k hk).imp id fun h => Nat.le_trans HB3.out.size h)
 clear R4 hX4 ho4 he4
 go_wp2_with fail
 refine (zWire { B with ev := ev' } _ _ _ HR4.out.dv (Bx.rst_ok HOK.out du)).mono ?_
 rintro e w5 ⟨rfl, d5, ho5⟩
 have HL := Hd (left_ev (HR4.out.turn d5 ho5 rfl) (HS.out ▸ HST.out.1) (HS.out ▸ HST.out.2) (HB4.out.trans (offOwn (B := B) ho5)) HE4.out)
 clear d5 ho5
 go_wp2_with fail
 go_ret
 refine ⟨rfl, ?_⟩
 rw [HS.out]
 exact HL.out
theorem bdStore (B : Bp) (x : Bx) (a v : Int) (w : World) (H : BdAt w B x) (a0 : 0 <= a) (a1 : a < 4294967296) (v0 : 0 <= v) (v1 : v < 4294967296) (hl : x.es.length < 4294967296) :
 Calls Tryz.prog 28 #[.pointer (some ⟨B.b, 0, none⟩), .int .u32 a, .int .u32 v] w fun e w' => e = .returned (.int .i64 (Bx.ste B.n B.c a)) /\ Left B (x.sto B.n B.c a v) w w' := by
 by_cases hE : Bx.ste B.n B.c a = 0
 . by_cases hD : (x.put B.n B.c a v).due = 0
   . exact bdStoreStill B x a v w H a0 a1 v0 v1 hE hD
   . exact bdStoreRst B x a v w H a0 a1 v0 v1 hE hD hl
 . exact bdStoreErr B x a v w H a0 a1 v0 v1 hE
end Go.Proofs.YtcgmnjajodegmaaGreat.B
