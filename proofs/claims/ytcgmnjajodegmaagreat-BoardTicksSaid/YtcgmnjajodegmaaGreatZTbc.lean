/- Several texts in one: The document's board: ticks. The document's own answers of layer 4: rows of truths. The document's board: its lines. -/
import Derived.Test.YtcgmnjajodegmaaGreatZTai
import Derived.Test.YtcgmnjajodegmaaGreatZTap
import Derived.Test.YtcgmnjajodegmaaGreatZTbb
set_option linter.unusedVariables false
set_option linter.unusedSimpArgs false
set_option maxRecDepth 100000
namespace Go.Proofs.YtcgmnjajodegmaaGreat.B
open Go.ChangeShapes Go.WideShapes Go.RowKit Go.Sort
theorem MV.row {w : World} {c g cap : Nat} {x : Bx} {ev : Value} (M : MV w c x (.slice (some ⟨g, 0, none⟩) c cap) ev) : RwAt w g c cap x.tm := by
 obtain ⟨g', cap', h1, h2⟩ := M.k
 cases h1
 exact h2
theorem Fr.like {w0 w : World} {b r n : Nat} {y : Bx} {bk ev : Value} (F : Fr w0 w b r n y bk ev) (z : Bx) (h : ml n y bk ev = ml n z bk ev := by rfl) : Fr w0 w b r n z bk ev :=
 { F with h := by have := F.h; unfold NAt at *; rw [<- h]; exact this }
set_option maxHeartbeats 6400000 in
theorem yTick0 (n c : Nat) (x : Bx) (bk ev : Value) (N : Int) (w : World) (M : MV w c x bk ev) (ok : x.ok n c) (hs : x.still) (n0 : 0 <= N) (n1 : N < 18446744073709551616) (hl : x.es.length < 4294967296) (hfx : (x.later N).wd.fa = 0) :
 Calls Tryz.prog 41 #[.agg (ml n x bk ev).toArray, .int .u64 N] w (DocPost n c (x.later N) w) := by
 have one := M.one
 have hfr := fr_new w n x bk ev one
 have hM0 := M.below (trA (trA (tr0 w) (oM11 n x bk ev)) zM11)
 have HOK := Hd ok
 have HLN := Hd hl
 obtain ⟨gk, capk, rfl, hrk⟩ := M.k
 have HN0 := Hd n0
 have HN1 := Hd n1
 have hrb := ran_bounds ok.wd hs.1 n0
 have HRB := Hd hrb
 have HFA := Hd hs.1
 have HYK := Hd (Bx.later_ok ok hs.1 n0 n1)
 have HFX := Hd hfx
 have HWS := Hd (show IntKind.u64.wrap (N - x.wd.ran N) = N - x.wd.ran N from by rw [IntKind.wrap_u64]; omega)
 clear hl hrk hrb hs ok hfx n0 n1
 go_enter Tryz.func41, Tryz.ntmps41
 go_upto_region 1 with (fail)
 rw [oM11_eq, zM11_eq]
 generalize ((w.alloc (oM11 n x (.slice (some ⟨gk, 0, none⟩) c capk) ev)).alloc zM11) = W at *
 generalize w.heap.size + 1 = r at *
 generalize hbn : w.heap.size = b at *
 have HF := Hd hfr
 have HM := Hd hM0
 clear hfr hM0 M one hbn
 go_upto_region 2 with (first | (refine nLoadV rfl (.tmp 8) rfl rfl HF.out.h ?_) | (go_at_call 83; refine (vTick x.wd N _ HOK.out.wd HN0.out HN1.out).mono ?_; rintro e w1 ⟨rfl, b1⟩; have HF := Hd (HF.out.below b1); have HM := Hd (HM.out.below b1); clear b1) | (rw [zV_eq]; refine storeV rfl (.tmp 5) (.tmp 12) rfl rfl (t := x.wd.tick N) rfl (t' := wz) (blk_new w1 zV) ?_; have hBl := below_setRow (trA (tr0 w1) zV) (vl (x.wd.tick N)).toArray (g := w1.heap.size) (Nat.le_refl _); have HD := Hd (VAt.row (blk_new w1 zV) (x.wd.tick N)); have HF := Hd (HF.out.below hBl); have HM := Hd (HM.out.below hBl); clear hBl; generalize (w1.alloc zV).setRow w1.heap.size (vl (x.wd.tick N)).toArray = w2 at *; generalize w1.heap.size = q at *))
 go_upto_region 3 with (first | (refine loadV rfl (.tmp 5) rfl rfl HD.out ?_; clear HD) | (refine nStoreV rfl (.tmp 15) (.tmp 14) rfl rfl (x.wd.tick N) rfl HF.out ?_; intro w3 hF2 ho2; have HM := Hd (mv_off HM.out ho2 HF.out.h); have HF := Hd hF2; clear hF2 ho2))
 go_upto_region 4 with (first | (refine nLoadC rfl (.tmp 16) rfl rfl HF.out.h ?_) | (go_at_call 84; refine (rcTick (x.wd.ran N) x.ti n _ _ _ _ HOK.out.t0 HOK.out.t1 HRB.out.1 (Int.lt_of_le_of_lt HRB.out.2 HN1.out)).mono ?_; rintro e w4 ⟨rfl, b1⟩; have HF := Hd (HF.out.below b1); have HM := Hd (HM.out.below b1); clear b1) | (refine nStoreC rfl (.tmp 20) (.tmp 19) rfl rfl (addS x.ti (x.wd.ran N)) x.D x.S rfl HF.out ?_; intro w5 hF2 ho2; have HM := Hd (mv_off HM.out ho2 HF.out.h); have HF := Hd hF2; clear hF2 ho2))
 have cB := HF.out.h.cB
 go_upto_region 5 with (go_at_call 85; refine (gTick HM.out.row (fun i hi => HOK.out.tm i hi) HOK.out.c0 HOK.out.c8 (x.wd.ran N) HRB.out.1 (Int.lt_of_le_of_lt HRB.out.2 HN1.out)).mono ?_; rintro e w6 ⟨g6, cap6, rfl, hg6, hr6, b6⟩; have HR := Hd hr6; have HF := Hd (HF.out.below b6); have HM := Hd (HM.out.below b6); clear cB hr6 b6 hg6; have cB := HF.out.h.cB; have fB := HF.out.h.free 26; have lB := HF.out.h.lt)
 clear cB fB lB
 have hso := off_set w6 b 26 (.slice (some ⟨g6, 0, none⟩) c cap6)
 have hF7 := HF.out.turn (HF.out.h.setB (.slice (some ⟨g6, 0, none⟩) c cap6)) hso ⟨rfl, HF.out.one.2⟩
 have hM7 : MV (w6.setCell ⟨b, 26, none⟩ (.slice (some ⟨g6, 0, none⟩) c cap6)) c (x.later N) (.slice (some ⟨g6, 0, none⟩) c cap6) ev := ⟨⟨g6, cap6, rfl, HR.out.off hso (HR.out.ne HF.out.h rfl)⟩, ev_off HM.out.e hso HF.out.h⟩
 generalize w6.setCell ⟨b, 26, none⟩ (.slice (some ⟨g6, 0, none⟩) c cap6) = w7 at *
 have HF := Hd hF7
 have HM := Hd hM7
 clear hso hF7 hM7 HR
 go_upto_region 6 with (first | (refine nLoadK rfl (.tmp 26) rfl rfl HF.out.h ?_) | (go_at_call 86; refine (kTick x.rk (x.wd.ran N) _ HOK.out.rk HRB.out.1 (Int.lt_of_le_of_lt HRB.out.2 HN1.out)).mono ?_; rintro e w8 ⟨rfl, b1⟩; have HF := Hd (HF.out.below b1); have HM := Hd (HM.out.below b1); clear b1) | (refine nStoreK rfl (.tmp 30) (.tmp 29) rfl rfl (x.rk.tick (x.wd.ran N)) rfl HF.out ?_; intro w9 hF2 ho2; have HM := Hd (mv_off HM.out ho2 HF.out.h); have HF := Hd hF2; clear hF2 ho2))
 have HF := Hd (HF.out.like (x.later N))
 have cF := HF.out.h.cF
 rw [HFX.out] at cF
 go_wp2_with (first | (refine nLoadB rfl (.tmp 2) rfl rfl HF.out.h ?_) | (obtain ⟨cz, hz1, hz2⟩ := HF.out.z; refine nStoreB rfl (.tmp 4) (.tmp 35) rfl rfl (x.later N) (.slice (some ⟨g6, 0, none⟩) c cap6) _ n rfl hz1 hz2 HF.out.one ?_; intro u10 hN10 ho10; have HX := Hd (doc_end HF.out HM.out hN10 ho10); have HN10 := Hd hN10; clear hN10 ho10 hz1 hz2))
 exact bodyPost_ret (resN rfl _ _ rfl HN10.out) rfl HX.out
set_option maxHeartbeats 6400000 in
theorem yTick1 (n c : Nat) (x : Bx) (bk ev : Value) (N : Int) (w : World) (M : MV w c x bk ev) (ok : x.ok n c) (hs : x.still) (n0 : 0 <= N) (n1 : N < 18446744073709551616) (hl : x.es.length < 4294967296) (hfx : (x.later N).wd.fa = 2) :
 Calls Tryz.prog 41 #[.agg (ml n x bk ev).toArray, .int .u64 N] w (DocPost n c ({ (x.later N).rst 2 with ti := addS (x.later N).ti (N - x.wd.ran N), rk := (x.later N).rk.zero.tick (N - x.wd.ran N) } : Bx) w) := by
 have one := M.one
 have hfr := fr_new w n x bk ev one
 have hM0 := M.below (trA (trA (tr0 w) (oM11 n x bk ev)) zM11)
 have HOK := Hd ok
 have HLN := Hd hl
 obtain ⟨gk, capk, rfl, hrk⟩ := M.k
 have HN0 := Hd n0
 have HN1 := Hd n1
 have hrb := ran_bounds ok.wd hs.1 n0
 have HRB := Hd hrb
 have HFA := Hd hs.1
 have HYK := Hd (Bx.later_ok ok hs.1 n0 n1)
 have HFX := Hd hfx
 have HWS := Hd (show IntKind.u64.wrap (N - x.wd.ran N) = N - x.wd.ran N from by rw [IntKind.wrap_u64]; omega)
 clear hl hrk hrb hs ok hfx n0 n1
 go_enter Tryz.func41, Tryz.ntmps41
 go_upto_region 1 with (fail)
 rw [oM11_eq, zM11_eq]
 generalize ((w.alloc (oM11 n x (.slice (some ⟨gk, 0, none⟩) c capk) ev)).alloc zM11) = W at *
 generalize w.heap.size + 1 = r at *
 generalize hbn : w.heap.size = b at *
 have HF := Hd hfr
 have HM := Hd hM0
 clear hfr hM0 M one hbn
 go_upto_region 2 with (first | (refine nLoadV rfl (.tmp 8) rfl rfl HF.out.h ?_) | (go_at_call 83; refine (vTick x.wd N _ HOK.out.wd HN0.out HN1.out).mono ?_; rintro e w1 ⟨rfl, b1⟩; have HF := Hd (HF.out.below b1); have HM := Hd (HM.out.below b1); clear b1) | (rw [zV_eq]; refine storeV rfl (.tmp 5) (.tmp 12) rfl rfl (t := x.wd.tick N) rfl (t' := wz) (blk_new w1 zV) ?_; have hBl := below_setRow (trA (tr0 w1) zV) (vl (x.wd.tick N)).toArray (g := w1.heap.size) (Nat.le_refl _); have HD := Hd (VAt.row (blk_new w1 zV) (x.wd.tick N)); have HF := Hd (HF.out.below hBl); have HM := Hd (HM.out.below hBl); clear hBl; generalize (w1.alloc zV).setRow w1.heap.size (vl (x.wd.tick N)).toArray = w2 at *; generalize w1.heap.size = q at *))
 go_upto_region 3 with (first | (refine loadV rfl (.tmp 5) rfl rfl HD.out ?_; clear HD) | (refine nStoreV rfl (.tmp 15) (.tmp 14) rfl rfl (x.wd.tick N) rfl HF.out ?_; intro w3 hF2 ho2; have HM := Hd (mv_off HM.out ho2 HF.out.h); have HF := Hd hF2; clear hF2 ho2))
 go_upto_region 4 with (first | (refine nLoadC rfl (.tmp 16) rfl rfl HF.out.h ?_) | (go_at_call 84; refine (rcTick (x.wd.ran N) x.ti n _ _ _ _ HOK.out.t0 HOK.out.t1 HRB.out.1 (Int.lt_of_le_of_lt HRB.out.2 HN1.out)).mono ?_; rintro e w4 ⟨rfl, b1⟩; have HF := Hd (HF.out.below b1); have HM := Hd (HM.out.below b1); clear b1) | (refine nStoreC rfl (.tmp 20) (.tmp 19) rfl rfl (addS x.ti (x.wd.ran N)) x.D x.S rfl HF.out ?_; intro w5 hF2 ho2; have HM := Hd (mv_off HM.out ho2 HF.out.h); have HF := Hd hF2; clear hF2 ho2))
 have cB := HF.out.h.cB
 go_upto_region 5 with (go_at_call 85; refine (gTick HM.out.row (fun i hi => HOK.out.tm i hi) HOK.out.c0 HOK.out.c8 (x.wd.ran N) HRB.out.1 (Int.lt_of_le_of_lt HRB.out.2 HN1.out)).mono ?_; rintro e w6 ⟨g6, cap6, rfl, hg6, hr6, b6⟩; have HR := Hd hr6; have HF := Hd (HF.out.below b6); have HM := Hd (HM.out.below b6); clear cB hr6 b6 hg6; have cB := HF.out.h.cB; have fB := HF.out.h.free 26; have lB := HF.out.h.lt)
 clear cB fB lB
 have hso := off_set w6 b 26 (.slice (some ⟨g6, 0, none⟩) c cap6)
 have hF7 := HF.out.turn (HF.out.h.setB (.slice (some ⟨g6, 0, none⟩) c cap6)) hso ⟨rfl, HF.out.one.2⟩
 have hM7 : MV (w6.setCell ⟨b, 26, none⟩ (.slice (some ⟨g6, 0, none⟩) c cap6)) c (x.later N) (.slice (some ⟨g6, 0, none⟩) c cap6) ev := ⟨⟨g6, cap6, rfl, HR.out.off hso (HR.out.ne HF.out.h rfl)⟩, ev_off HM.out.e hso HF.out.h⟩
 generalize w6.setCell ⟨b, 26, none⟩ (.slice (some ⟨g6, 0, none⟩) c cap6) = w7 at *
 have HF := Hd hF7
 have HM := Hd hM7
 clear hso hF7 hM7 HR
 go_upto_region 6 with (first | (refine nLoadK rfl (.tmp 26) rfl rfl HF.out.h ?_) | (go_at_call 86; refine (kTick x.rk (x.wd.ran N) _ HOK.out.rk HRB.out.1 (Int.lt_of_le_of_lt HRB.out.2 HN1.out)).mono ?_; rintro e w8 ⟨rfl, b1⟩; have HF := Hd (HF.out.below b1); have HM := Hd (HM.out.below b1); clear b1) | (refine nStoreK rfl (.tmp 30) (.tmp 29) rfl rfl (x.rk.tick (x.wd.ran N)) rfl HF.out ?_; intro w9 hF2 ho2; have HM := Hd (mv_off HM.out ho2 HF.out.h); have HF := Hd hF2; clear hF2 ho2))
 have HF := Hd (HF.out.like (x.later N))
 have cF := HF.out.h.cF
 rw [HFX.out] at cF
 go_upto_region 9 with (first | (refine nLoadB rfl (.tmp 2) rfl rfl HF.out.h ?_) | (go_at_call 87; refine (mReset n c (x.later N) _ _ 2 _ HM.out HYK.out HLN.out).mono ?_; rintro e w10 ⟨bk8, ev8, rfl, M8, b8⟩; have HF := Hd (HF.out.below b8); have HM := Hd M8; clear M8 b8 cF) | (refine nStoreB rfl (.tmp 2) (.tmp 40) rfl rfl ((x.later N).rst 2) bk8 ev8 n rfl HF.out.h (by rw [List.size_toArray, ml_len]) HM.out.one ?_; intro w11 hN9 ho9; have HM := Hd (mv_off HM.out ho9 HF.out.h); have HF := Hd (HF.out.turn hN9 ho9 HM.out.one); clear hN9 ho9))
 have hws := HWS.out
 go_upto_region 10 with (first | (refine nLoadC rfl (.tmp 41) rfl rfl HF.out.h ?_) | (go_at_call 84; refine (rcTick (N - x.wd.ran N) (x.later N).ti n _ _ _ _ HYK.out.t0 HYK.out.t1 (Int.sub_nonneg_of_le HRB.out.2) (by have := HRB.out; have := HN1.out; omega)).mono ?_; rintro e w12 ⟨rfl, b1⟩; have HF := Hd (HF.out.below b1); have HM := Hd (HM.out.below b1); clear b1) | (refine nStoreC rfl (.tmp 47) (.tmp 46) rfl rfl (addS (x.later N).ti (N - x.wd.ran N)) nvD zeS rfl HF.out ?_; intro w13 hF2 ho2; have HM := Hd (mv_off HM.out ho2 HF.out.h); have HF := Hd hF2; clear hF2 ho2))
 go_upto_region 11 with (first | (refine nLoadK rfl (.tmp 48) rfl rfl HF.out.h ?_) | (go_at_call 86; refine (kTick (x.later N).rk.zero (N - x.wd.ran N) _ (Rk.zero_ok HYK.out.rk) (Int.sub_nonneg_of_le HRB.out.2) (by have := HRB.out; have := HN1.out; omega)).mono ?_; rintro e w14 ⟨rfl, b1⟩; have HF := Hd (HF.out.below b1); have HM := Hd (HM.out.below b1); clear b1) | (refine nStoreK rfl (.tmp 54) (.tmp 53) rfl rfl ((x.later N).rk.zero.tick (N - x.wd.ran N)) rfl HF.out ?_; intro w15 hF2 ho2; have HM := Hd (mv_off HM.out ho2 HF.out.h); have HF := Hd hF2; clear hF2 ho2))
 have HF := Hd (HF.out.like ({ (x.later N).rst 2 with ti := addS (x.later N).ti (N - x.wd.ran N), rk := (x.later N).rk.zero.tick (N - x.wd.ran N) } : Bx))
 have HM := Hd (show MV w15 c ({ (x.later N).rst 2 with ti := addS (x.later N).ti (N - x.wd.ran N), rk := (x.later N).rk.zero.tick (N - x.wd.ran N) } : Bx) bk8 ev8 from ⟨HM.out.k, HM.out.e⟩)
 go_wp2_with (first | (refine nLoadB rfl (.tmp 2) rfl rfl HF.out.h ?_) | (obtain ⟨cz, hz1, hz2⟩ := HF.out.z; refine nStoreB rfl (.tmp 4) (.tmp 55) rfl rfl ({ (x.later N).rst 2 with ti := addS (x.later N).ti (N - x.wd.ran N), rk := (x.later N).rk.zero.tick (N - x.wd.ran N) } : Bx) bk8 _ n rfl hz1 hz2 HF.out.one ?_; intro u10 hN10 ho10; have HX := Hd (doc_end HF.out HM.out hN10 ho10); have HN10 := Hd hN10; clear hN10 ho10 hz1 hz2))
 exact bodyPost_ret (resN rfl _ _ rfl HN10.out) rfl HX.out
theorem yTick (n c : Nat) (x : Bx) (bk ev : Value) (N : Int) (w : World) (M : MV w c x bk ev) (ok : x.ok n c) (hs : x.still) (n0 : 0 <= N) (n1 : N < 18446744073709551616) (hl : x.es.length < 4294967296) :
 Calls Tryz.prog 41 #[.agg (ml n x bk ev).toArray, .int .u64 N] w (DocPost n c (x.tick N) w) := by
 by_cases h : (x.later N).wd.fa = 0
 . rw [Bx.tick_no h]
   exact yTick0 n c x bk ev N w M ok hs n0 n1 hl h
 . have h2 : (x.later N).wd.fa = 2 := tick_fault hs.1 h
   rw [Bx.tick_yes h, h2]
   exact yTick1 n c x bk ev N w M ok hs n0 n1 hl h2
theorem i27 : (Tryz.prog.info? 99).map (·.size) = some 64 := by kernel_rfl
def lcs (f g : Nat -> Bool) : List Value := bl f 32 ++ bl g 32
theorem lcs_len (f g : Nat -> Bool) : (lcs f g).length = 64 := by unfold lcs; simp [bl_len]
theorem lcs_one (f g : Nat -> Bool) : ∀ v ∈ lcs f g, v.oneCell' = true := by
 intro v h
 unfold lcs at h
 rcases List.mem_append.1 h with h | h
 . exact bl_one _ _ v h
 . exact bl_one _ _ v h
theorem lcs_left (f g : Nat -> Bool) (i : Nat) (h : i < 32) : (lcs f g)[i]? = some (.bool (f i)) := by
 unfold lcs; rw [List.getElem?_append_left (by rw [bl_len]; exact h), bl_get _ _ _ h]
theorem lcs_right (f g : Nat -> Bool) (i : Nat) (h : i < 32) : (lcs f g)[32 + i]? = some (.bool (g i)) := by
 unfold lcs; rw [List.getElem?_append_right (by rw [bl_len]; omega), bl_len, show 32 + i - 32 = i by omega, bl_get _ _ _ h]
theorem lcs_partL (f g : Nat -> Bool) : PartAt (lcs f g).toArray 0 (bl f 32) := part_left _ _
theorem lcs_partR (f g : Nat -> Bool) : PartAt (lcs f g).toArray 32 (bl g 32) := part_right _ _ 32 (bl_len f 32)
theorem lcs_setR (f g h : Nat -> Bool) : spliced (lcs f g).toArray 32 (bl h 32) = (lcs f h).toArray := spliced_right _ _ _ 32 (bl_len f 32) (by rw [bl_len, bl_len])
section
variable {ops : Array Oper} {rest : List Oper} {o : Oper} {a : Act} {w : World} {Q : Exit -> Act -> World -> Prop}
theorem load27 (hgd : o.guard = none) (x : Operand) (ho : o.op = .load 99 x) (b : Nat) (hx : a.eval x = .pointer (some ⟨b, 0, none⟩)) {t : TypeId} {fr : Nat × Nat} (f g : Nat -> Bool) (hg : w.heap[b]? = some (.cells (lcs f g).toArray t fr))
 (h : wpList Tryz.prog ops Q rest (a.put o.dst (.agg (lcs f g).toArray)) w) : wpList Tryz.prog ops Q (o :: rest) a w :=
 wpList_load_part hgd _ x ho b 0 hx _ (lcs f g) hg Tryz.underlying99 rfl (by rw [lcs_len]; exact i27) (part_all _) h
theorem store27 (hgd : o.guard = none) (x y : Operand) (ho : o.op = .store 99 x y) (b : Nat) (hx : a.eval x = .pointer (some ⟨b, 0, none⟩)) (f g : Nat -> Bool) (hy : a.eval y = .agg (lcs f g).toArray) {t : TypeId} {cs : Array Value} (hg : w.heap[b]? = some (.cells cs t (0, 0))) (hl : cs.size = 64)
 (h : wpList Tryz.prog ops Q rest (a.put o.dst undef) (w.setRow b (lcs f g).toArray)) : wpList Tryz.prog ops Q (o :: rest) a w :=
 wpList_store_part hgd _ x y ho b 0 hx (lcs f g) hy hg (by rw [lcs_len]; exact i27) (by rw [lcs_len]; omega) (lcs_one _ _) (by rw [spliced_all _ _ (by rw [lcs_len]; exact hl)]; exact h)
theorem qload27 {C : World -> Prop} {K : Act -> Prop} (x : Operand) (ho : o.op = .load 99 x) (b : Nat) (hx : a.eval x = .pointer (some ⟨b, 0, none⟩)) {t : TypeId} {fr : Nat × Nat} (f g : Nat -> Bool) (hg : ∀ w, C w -> w.heap[b]? = some (.cells (lcs f g).toArray t fr))
 (h : K (a.put o.dst (.agg (lcs f g).toArray))) : o.quiet Tryz.prog a C K :=
 quiet_load_part _ x ho b 0 hx _ (lcs f g) hg Tryz.underlying99 rfl (by rw [lcs_len]; exact i27) (part_all _) h
end
theorem lcs_cellL {w : World} {b : Nat} {f g : Nat -> Bool} {t : TypeId} {fr : Nat × Nat} (h : w.heap[b]? = some (.cells (lcs f g).toArray t fr)) (k : Nat) (hk : k < 32) : w.cell? ⟨b, k, none⟩ = some (.bool (f k)) := by
 rw [cell_of_row w b k _ t fr h]; simpa using lcs_left f g k hk
theorem lcs_cellR {w : World} {b : Nat} {f g : Nat -> Bool} {t : TypeId} {fr : Nat × Nat} (h : w.heap[b]? = some (.cells (lcs f g).toArray t fr)) (k : Nat) (hk : k < 32) : w.cell? ⟨b, 32 + k, none⟩ = some (.bool (g k)) := by
 rw [cell_of_row w b (32 + k) _ t fr h]; simpa using lcs_right f g k hk
abbrev tL4 : TypeId := 99
def QAt (w : World) (b : Nat) (f g : Nat -> Bool) : Prop := w.heap[b]? = some (.cells (lcs f g).toArray tL4 (0, 0))
theorem QAt.congr {w : World} {b : Nat} {f g f' : Nat -> Bool} (h : QAt w b f g) (hf : ∀ i, i < 32 -> f i = f' i) : QAt w b f' g := by
 unfold QAt lcs at *
 rw [bl_congr f' f 32 fun i hi => (hf i hi).symm]; exact h
theorem QAt.lt {w : World} {b : Nat} {f g : Nat -> Bool} (h : QAt w b f g) : b < w.heap.size := lt_of_block h
theorem QAt.free {w : World} {b : Nat} {f g : Nat -> Bool} (h : QAt w b f g) (j : Nat) : w.frozen? ⟨b, j, none⟩ = false := blk_free h j
theorem QAt.below {w w' : World} {b : Nat} {f g : Nat -> Bool} (h : QAt w b f g) (hb : Below w.heap.size w w') : QAt w' b f g := blk_below hb h h.lt
theorem lcs_put2 (f g : Nat -> Bool) (k : Nat) (B : Bool) (hk : k < 32) : (lcs f g).toArray.setIfInBounds k (.bool B) = (lcs (fun i => if i = k then B else f i) g).toArray := by
 rw [set_arr]
 unfold lcs
 rw [List.set_append_left _ _ (by rw [bl_len]; exact hk), bl_set]
theorem QAt.put {w : World} {b : Nat} {f g : Nat -> Bool} (h : QAt w b f g) (k : Nat) (B : Bool) (hk : k < 32) : QAt (w.setCell ⟨b, k, none⟩ (.bool B)) b (fun i => if i = k then B else f i) g := by
 unfold QAt
 rw [blk_set h, lcs_put2 f g k B hk]
theorem QAt.cell {w : World} {b : Nat} {f g : Nat -> Bool} (h : QAt w b f g) (k : Nat) (hk : k < 32) : w.cell? ⟨b, k, none⟩ = some (.bool (f k)) := lcs_cellL h k hk
def zL4 : Obj := .cells (lcs (bit 0) (bit 0)).toArray tL4 (0, 0)
theorem zL4_eq : Obj.cells #[.bool false, .bool false, .bool false, .bool false, .bool false, .bool false, .bool false, .bool false, .bool false, .bool false, .bool false, .bool false, .bool false, .bool false, .bool false, .bool false, .bool false, .bool false, .bool false, .bool false, .bool false, .bool false, .bool false, .bool false, .bool false, .bool false, .bool false, .bool false, .bool false, .bool false, .bool false, .bool false, .bool false, .bool false, .bool false, .bool false, .bool false, .bool false, .bool false, .bool false, .bool false, .bool false, .bool false, .bool false, .bool false, .bool false, .bool false, .bool false, .bool false, .bool false, .bool false, .bool false, .bool false, .bool false, .bool false, .bool false, .bool false, .bool false, .bool false, .bool false, .bool false, .bool false, .bool false, .bool false] 99 (0, 0) = zL4 := by
 unfold zL4
 rw [show lcs (bit 0) (bit 0) = lcs (fun _ => false) (fun _ => false) by unfold lcs; rw [bl_congr (bit 0) (fun _ => false) 32 fun i _ => bit_zero i]]
 rfl
structure LnAt (w0 w : World) (p r q n : Nat) (x : Bx) (bk ev : Value) (f g : Nat -> Bool) : Prop where
 h : NAt w p n x bk ev
 z : QAt w r (bit 0) (bit 0)
 l : QAt w q f g
 lo : Below w0.heap.size w0 w
 sp : w0.heap.size <= p
 pr : p < r
 rq : r < q
section
variable {w0 w w' : World} {p r q n c : Nat} {x : Bx} {bk ev : Value} {f g : Nat -> Bool}
theorem LnAt.below (L : LnAt w0 w p r q n x bk ev f g) (hb : Below w.heap.size w w') : LnAt w0 w' p r q n x bk ev f g :=
 ⟨L.h.below hb, L.z.below hb, L.l.below hb, tr L.lo hb, L.sp, L.pr, L.rq⟩
theorem LnAt.put (L : LnAt w0 w p r q n x bk ev f g) (k : Nat) (B : Bool) (hk : k < 32) : LnAt w0 (w.setCell ⟨q, k, none⟩ (.bool B)) p r q n x bk ev (fun i => if i = k then B else f i) g := by
 have h1 := L.pr
 have h2 := L.rq
 have h3 := L.sp
 exact ⟨blk_else L.h _ _ _ (by omega), blk_else L.z _ _ _ (by omega), L.l.put k B hk, Off.toBelow L.lo (off_set w q k _) (fun j hj e => by omega) (Nat.le_refl _), h3, h1, h2⟩
theorem LnAt.congr {f' : Nat -> Bool} (L : LnAt w0 w p r q n x bk ev f g) (hf : ∀ i, i < 32 -> f i = f' i) : LnAt w0 w p r q n x bk ev f' g := ⟨L.h, L.z, L.l.congr hf, L.lo, L.sp, L.pr, L.rq⟩
theorem LnAt.mask (L : LnAt w0 w p r q n x bk ev f g) (m : Int) : LnAt w0 (w.setRow q (lcs f (bit m)).toArray) p r q n x bk ev f (bit m) := by
 have h1 := L.pr
 have h2 := L.rq
 have h3 := L.sp
 exact ⟨row_else q _ L.h (by omega), row_else q _ L.z (by omega), row_set _ L.l, below_setRow L.lo _ (by omega), h3, h1, h2⟩
theorem ln_new (w : World) (n : Nat) (x : Bx) (bk ev : Value) : LnAt w (((w.alloc (oM11 n x bk ev)).alloc zL4).alloc zL4) w.heap.size (w.heap.size + 1) (w.heap.size + 1 + 1) n x bk ev (bit 0) (bit 0) := by
 have hs : ((w.alloc (oM11 n x bk ev)).alloc zL4).heap.size = w.heap.size + 1 + 1 := by simp
 have h0 := b2_0 w (oM11 n x bk ev) zL4
 have h1 := b2_1 w (oM11 n x bk ev) zL4
 refine ⟨(blk_old _ _ (by omega)).trans h0, (blk_old _ _ (by omega)).trans h1, ?_, trA (trA (trA (tr0 w) _) _) _, Nat.le_refl _, by omega, by omega⟩
 have := blk_new ((w.alloc (oM11 n x bk ev)).alloc zL4) zL4
 rw [hs] at this
 exact this
end
def fA (x : Bx) (k i : Nat) : Bool := if i < 8 then decide (i < k) && decide (x.D i <= x.ti) else if i < 24 then false else decide (i - 24 < k) && (x.S (i - 24) == 1)
def fB (n : Nat) (x : Bx) (k i : Nat) : Bool := if i < 8 then fA x n i else if i < 16 then decide (i - 8 < k) && ((x.tm (i - 8)).st && (x.tm (i - 8)).iq) else fA x n i
theorem fA_zero (x : Bx) (i : Nat) : bit 0 i = fA x 0 i := by
 rw [bit_zero]
 unfold fA
 split
 . rw [decide_eq_false (by omega)]; rfl
 . split
   . rfl
   . rw [decide_eq_false (by omega)]; rfl
theorem fA_next (x : Bx) (k : Nat) (hk : k < 8) (i : Nat) (hi : i < 32) : (if i = 24 + k then (x.S k == 1) else if i = k then decide (x.D k <= x.ti) else fA x k i) = fA x (k + 1) i := by
 unfold fA
 by_cases h1 : i = 24 + k
 . subst h1
   rw [if_pos rfl, if_neg (by omega), if_neg (by omega), Nat.add_sub_cancel_left, decide_eq_true (by omega), Bool.true_and]
 . rw [if_neg h1]
   by_cases h2 : i = k
   . subst h2
     rw [if_pos rfl, if_pos hk, show decide (i < i + 1) = true from decide_eq_true (by omega), Bool.true_and]
   . rw [if_neg h2]
     by_cases h3 : i < 8
     . rw [if_pos h3, if_pos h3, show decide (i < k) = decide (i < k + 1) from decide_eq_decide.2 (by omega)]
     . rw [if_neg h3, if_neg h3]
       by_cases h4 : i < 24
       . rw [if_pos h4, if_pos h4]
       . rw [if_neg h4, if_neg h4, show decide (i - 24 < k) = decide (i - 24 < k + 1) from decide_eq_decide.2 (by omega)]
theorem fB_zero (n : Nat) (x : Bx) (i : Nat) : fA x n i = fB n x 0 i := by
 unfold fB
 split
 . rfl
 . split
   . unfold fA
     rw [if_neg (by omega), if_pos (by omega), decide_eq_false (by omega)]; rfl
   . rfl
theorem fB_next (n : Nat) (x : Bx) (k : Nat) (hk : k < 8) (i : Nat) : (if i = 8 + k then ((x.tm k).st && (x.tm k).iq) else fB n x k i) = fB n x (k + 1) i := by
 unfold fB
 by_cases h1 : i = 8 + k
 . subst h1
   rw [if_pos rfl, if_neg (by omega), if_pos (by omega), Nat.add_sub_cancel_left, decide_eq_true (by omega), Bool.true_and]
 . rw [if_neg h1]
   by_cases h3 : i < 8
   . rw [if_pos h3, if_pos h3]
   . rw [if_neg h3, if_neg h3]
     by_cases h4 : i < 16
     . rw [if_pos h4, if_pos h4, show decide (i - 8 < k) = decide (i - 8 < k + 1) from decide_eq_decide.2 (by omega)]
     . rw [if_neg h4, if_neg h4]
theorem fB_end (n c : Nat) (x : Bx) (i : Nat) (hi : i < 32) : (if i = 16 then x.rk.st else fB n x c i) = fH n c x i := by
 unfold fB fA fH
 by_cases h1 : i < 8
 . rw [if_neg (by omega), if_pos h1, if_pos h1, if_pos h1]
 . rw [if_neg h1, if_neg h1, if_neg h1]
   by_cases h2 : i < 16
   . rw [if_neg (by omega), if_pos h2, if_pos h2]
   . rw [if_neg h2, if_neg h2]
theorem ln_cell (t : Int) (D : Nat -> Int) (n k : Nat) (h : k < n) : cLn t n D (k : Int) = decide (D k <= t) := by
 unfold cLn isHart; rw [decide_eq_true (show 0 <= (k : Int) /\ (k : Int) < (n : Int) by omega), Bool.true_and, Int.toNat_natCast]
set_option maxHeartbeats 3200000 in
theorem yLines (n c : Nat) (x : Bx) (bk ev : Value) (w : World) (M : MV w c x bk ev) (ok : x.ok n c) :
 Calls Tryz.prog 44 #[.agg (ml n x bk ev).toArray] w fun e w' => e = .returned (.agg (lcs (fH n c x) (bit x.msk)).toArray) /\ Below w.heap.size w w' := by
 have HOK := Hd ok
 obtain ⟨gk, capk, rfl, hrk⟩ := M.k
 have HM := Hd M
 have HR := Hd hrk
 clear M hrk ok
 go_enter Tryz.func44, Tryz.ntmps44
 go_upto_region 2 with (fail)
 rw [oM11_eq, zL4_eq]
 have hL := (ln_new w n x (.slice (some ⟨gk, 0, none⟩) c capk) ev).congr (fun i _ => fA_zero x i)
 have hM := HM.out.below (trA (trA (trA (tr0 w) (oM11 n x (.slice (some ⟨gk, 0, none⟩) c capk) ev)) zL4) zL4)
 have HR := Hd hM.row
 clear HM
 generalize (((w.alloc (oM11 n x (.slice (some ⟨gk, 0, none⟩) c capk) ev)).alloc zL4).alloc zL4) = W at *
 generalize w.heap.size + 1 + 1 = q at *
 generalize w.heap.size + 1 = r at *
 generalize hpn : w.heap.size = p at *
 clear hM hpn
 have HG := Hd hL
 have HOD := Hd (fun v => rcLine v x.ti n x.D x.S)
 have hn8 := HOK.out.n8
 have hc8 := HOK.out.c8
 clear hL
 go_upto_region 3 with (fail)
 go_loopw [4] (fun i wr => ∃ k : Nat, k <= n /\ i = .int .i64 k /\ LnAt w wr p r q n x (.slice (some ⟨gk, 0, none⟩) c capk) ev (fA x k) (bit 0) /\ RwAt wr gk c capk x.tm) (fun i _ => n - (intOf i).toNat)
 case atStart => exact ⟨0, by omega, rfl, HG.out, HR.out⟩
 case round =>
  obtain ⟨k, hk, rfl, hL, hR⟩ := hrel
  have HG := Hd hL
  have HR := Hd hR
  have cN := hL.h.cN
  clear hL hR
  by_cases hlt : k < n
  . have hk8 : k < 8 := by omega
    have cS := HG.out.h.cS k hk8
    have hidx : (0 : Int) <= (k : Int) /\ (k : Int) < 32 := by omega
    go_upto_region 6 with (first | (refine nLoadC rfl (.tmp 14) rfl rfl HG.out.h ?_) | (go_at_call 48; refine (HOD.out (k : Int) _ hn8 HOK.out.d).mono ?_; rintro e w5 ⟨rfl, b5⟩; rw [ln_cell x.ti x.D n k hlt]; have HG := Hd (HG.out.below b5); have HR := Hd (HR.out.below b5); clear b5 cN cS; have cQ := HG.out.l.cell k (by omega); have fQ := HG.out.l.free k; have lQ := HG.out.l.lt))
    clear cQ fQ lQ
    have hL6 := HG.out.put k (decide (x.D k <= x.ti)) (by omega)
    have hR6 := HR.out.off (off_set w5 q k (.bool (decide (x.D k <= x.ti)))) (HR.out.ne HG.out.l rfl)
    generalize w5.setCell ⟨q, k, none⟩ (.bool (decide (x.D k <= x.ti))) = w6 at *
    have HG := Hd hL6
    have HR := Hd hR6
    have cS := HG.out.h.cS k hk8
    have cQ := HG.out.l.cell (24 + k) (by omega)
    have fQ := HG.out.l.free (24 + k)
    have lQ := HG.out.l.lt
    clear hL6 hR6
    go_upto_region 4 with (fail)
    clear cQ fQ lQ cS
    have hL7 := (HG.out.put (24 + k) (x.S k == 1) (by omega)).congr (fun i hi => fA_next x k hk8 i hi)
    have hR7 := HR.out.off (off_set w6 q (24 + k) (.bool (x.S k == 1))) (HR.out.ne HG.out.l rfl)
    generalize w6.setCell ⟨q, 24 + k, none⟩ (.bool (x.S k == 1)) = w7 at *
    have HG := Hd hL7
    have HR := Hd hR7
    clear hL7 hR7
    go_wp2_with fail
    go_roundw
    case rel => exact ⟨k + 1, by omega, by go_num, HG.out, HR.out⟩
    case measure => simp [intOf]; omega
  . have hkn : k = n := by omega
    subst hkn
    have HG := Hd (HG.out.congr fun i _ => fB_zero k x i)
    go_upto_region 8 with (fail)
    go_loopw [5] (fun j wr => ∃ i : Nat, i <= c /\ j = .int .i64 i /\ LnAt w wr p r q k x (.slice (some ⟨gk, 0, none⟩) c capk) ev (fB k x i) (bit 0) /\ RwAt wr gk c capk x.tm) (fun j _ => c - (intOf j).toNat)
    case atStart => exact ⟨0, by omega, rfl, HG.out, HR.out⟩
    case round =>
     obtain ⟨i, hi, rfl, hL, hR⟩ := hrel
     have HG := Hd hL
     have HR := Hd hR
     have cB := hL.h.cB
     clear hL hR cN
     by_cases hlt : i < c
     . have hi8 : i < 8 := by omega
       have c4 := HR.out.c hlt 4 _ rfl
       have c7 := HR.out.c hlt 7 _ rfl
       have cQ := HG.out.l.cell (8 + i) (by omega)
       have fQ := HG.out.l.free (8 + i)
       have lQ := HG.out.l.lt
       have HNX := Hd (fB_next k x i hi8)
       generalize (x.tm i).st = st at *
       generalize (x.tm i).iq = iq at *
       cases st <;> cases iq
       . go_upto_region 9 with (fail)
         have hL8 := (HG.out.put (8 + i) false (by omega)).congr (fun j _ => HNX.out j)
         have hR8 := HR.out.off (off_set wr q (8 + i) (.bool false)) (HR.out.ne HG.out.l rfl)
         generalize wr.setCell ⟨q, 8 + i, none⟩ (.bool false) = w8 at *
         clear cQ fQ lQ c4 c7 cB
         have HG := Hd hL8
         have HR := Hd hR8
         clear hL8 hR8
         go_wp2_with fail
         go_roundw
         case rel => exact ⟨i + 1, by omega, by go_num, HG.out, HR.out⟩
         case measure => simp [intOf]; omega
       . go_upto_region 9 with (fail)
         have hL8 := (HG.out.put (8 + i) false (by omega)).congr (fun j _ => HNX.out j)
         have hR8 := HR.out.off (off_set wr q (8 + i) (.bool false)) (HR.out.ne HG.out.l rfl)
         generalize wr.setCell ⟨q, 8 + i, none⟩ (.bool false) = w8 at *
         clear cQ fQ lQ c4 c7 cB
         have HG := Hd hL8
         have HR := Hd hR8
         clear hL8 hR8
         go_wp2_with fail
         go_roundw
         case rel => exact ⟨i + 1, by omega, by go_num, HG.out, HR.out⟩
         case measure => simp [intOf]; omega
       . go_upto_region 9 with (fail)
         have hL8 := (HG.out.put (8 + i) false (by omega)).congr (fun j _ => HNX.out j)
         have hR8 := HR.out.off (off_set wr q (8 + i) (.bool false)) (HR.out.ne HG.out.l rfl)
         generalize wr.setCell ⟨q, 8 + i, none⟩ (.bool false) = w8 at *
         clear cQ fQ lQ c4 c7 cB
         have HG := Hd hL8
         have HR := Hd hR8
         clear hL8 hR8
         go_wp2_with fail
         go_roundw
         case rel => exact ⟨i + 1, by omega, by go_num, HG.out, HR.out⟩
         case measure => simp [intOf]; omega
       . go_upto_region 9 with (fail)
         have hL8 := (HG.out.put (8 + i) true (by omega)).congr (fun j _ => HNX.out j)
         have hR8 := HR.out.off (off_set wr q (8 + i) (.bool true)) (HR.out.ne HG.out.l rfl)
         generalize wr.setCell ⟨q, 8 + i, none⟩ (.bool true) = w8 at *
         clear cQ fQ lQ c4 c7 cB
         have HG := Hd hL8
         have HR := Hd hR8
         clear hL8 hR8
         go_wp2_with fail
         go_roundw
         case rel => exact ⟨i + 1, by omega, by go_num, HG.out, HR.out⟩
         case measure => simp [intOf]; omega
     . have hic : i = c := by omega
       subst hic
       have cR := HG.out.h.cR
       have cQ := HG.out.l.cell 16 (by omega)
       have fQ := HG.out.l.free 16
       have lQ := HG.out.l.lt
       go_upto_region 12 with (fail)
       clear cQ fQ lQ cR cB
       have hL9 := (HG.out.put 16 x.rk.st (by omega)).congr (fun j hj => fB_end k i x j hj)
       generalize wr.setCell ⟨q, 16, none⟩ (.bool x.rk.st) = w9 at *
       have HG := Hd hL9
       clear hL9 HR
       go_wp2_with (first | (refine nLoadM rfl (.tmp 60) rfl rfl HG.out.h ?_) | (refine store25 rfl (.tmp 62) (.tmp 61) rfl _ _ rfl (bit x.msk) rfl HG.out.l (by simp [lcs_len]) ?_; rw [lcs_setR]; have HG2 := Hd (HG.out.mask x.msk); generalize w9.setRow q (lcs (fH k i x) (bit x.msk)).toArray = w10 at *) | (refine load27 rfl (.tmp 3) rfl _ rfl _ _ HG2.out.l ?_) | (refine store27 rfl (.tmp 2) (.tmp 63) rfl _ rfl _ _ rfl HG2.out.z (by simp [lcs_len]) ?_))
       refine bodyPost_ret (v := .agg (lcs (fH k i x) (bit x.msk)).toArray) ?_ rfl ⟨rfl, below_setRow HG2.out.lo _ (by have := HG2.out.sp; have := HG2.out.pr; omega)⟩
       exact results_cell_one Tryz.results44 _ _ r 0 _ (lcs (fH k i x) (bit x.msk)) rfl (row_set _ HG2.out.z) Tryz.underlying99 rfl (by rw [lcs_len]; exact i27) (part_all _)
end Go.Proofs.YtcgmnjajodegmaaGreat.B
