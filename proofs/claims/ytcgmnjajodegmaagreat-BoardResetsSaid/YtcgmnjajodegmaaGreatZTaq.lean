/- Several texts in one: The document's own answers of layer 6: a tick, a register read. The document's own answers of layer 6: a register written. -/
import Derived.Test.YtcgmnjajodegmaaGreatZTaf
set_option linter.unusedVariables false
set_option linter.unusedSimpArgs false
set_option maxRecDepth 100000
namespace Go.Proofs.YtcgmnjajodegmaaGreat.B
open Go.ChangeShapes Go.WideShapes Go.RowKit Go.Sort
set_option maxHeartbeats 800000 in
theorem mOne (t : Tm) (w : World) (h : t.ok) : Calls Tryz.prog 187 #[.agg (rl t).toArray] w fun e w' => e = .returned (.agg (rl t.one).toArray) /\ Below w.heap.size w w' := by
 have hB := trA (trA (tr0 w) (oM t)) zM
 have X : MAt ((w.alloc (oM t)).alloc zM) w.heap.size t := b2_0 w (oM t) zM
 have Y : MAt ((w.alloc (oM t)).alloc zM) (w.heap.size + 1) tz := b2_1 w (oM t) zM
 obtain ⟨l0, l1, v0, v1, s0, s1, p0, p1⟩ := h
 obtain ⟨R, hR⟩ : ∃ R, t.one = R := ⟨_, rfl⟩
 rw [hR]
 have HR := Hd hR
 clear hR
 obtain ⟨ld, v, en, re, iq, sc, ph, st⟩ := t
 simp only at l0 l1 v0 v1 s0 s1 p0 p1
 have x2 := X.c2
 have x6 := X.c6
 have f6 := X.free 6
 simp only at x2 x6
 cases en
 . clear x6 f6
   go_enter Tryz.func187, Tryz.ntmps187
   go_upto_region 1 with (fail)
   rw [show Obj.cells (rl ⟨ld, v, false, re, iq, sc, ph, st⟩).toArray 171 (0, 0) = oM ⟨ld, v, false, re, iq, sc, ph, st⟩ from rfl, zM_eq]
   generalize ((w.alloc (oM ⟨ld, v, false, re, iq, sc, ph, st⟩)).alloc zM) = W at *
   have Z := MAt.row Y ⟨ld, v, false, re, iq, sc, ph, st⟩
   have hB2 := below_setRow hB (rl ⟨ld, v, false, re, iq, sc, ph, st⟩).toArray (g := w.heap.size + 1) (by omega)
   go_wp2_with (first | (refine loadM rfl (.tmp 1) rfl rfl X ?_) | (refine storeM rfl (.tmp 2) (.tmp 6) rfl rfl (t := ⟨ld, v, false, re, iq, sc, ph, st⟩) rfl Y ?_))
   refine bodyPost_ret (resM rfl _ _ rfl Z) rfl ⟨?_, hB2⟩
   rw [<- HR.out]
   rfl
 . have q0 : ph + 1 < 4294967296 := by omega
   go_enter Tryz.func187, Tryz.ntmps187
   go_upto_region 1 with (fail)
   rw [show Obj.cells (rl ⟨ld, v, true, re, iq, sc, ph, st⟩).toArray 171 (0, 0) = oM ⟨ld, v, true, re, iq, sc, ph, st⟩ from rfl, zM_eq]
   generalize ((w.alloc (oM ⟨ld, v, true, re, iq, sc, ph, st⟩)).alloc zM) = W at *
   go_upto_region 4 with (fail)
   have X1 : MAt _ _ ⟨ld, v, true, re, iq, sc, ph + 1, st⟩ := (X.s6 (ph + 1))
   have Y1 := (Y.other w.heap.size 6 (.int .u32 (ph + 1)) (by omega))
   have hB1 := (hB.setCell (p := ⟨w.heap.size, 6, none⟩) (by simp) (.int .u32 (ph + 1)))
   clear X Y hB x2 x6 f6
   have X := X1
   have Y := Y1
   have hB := hB1
   clear X1 Y1 hB1
   generalize (W.setCell ⟨w.heap.size, 6, none⟩ (.int .u32 (ph + 1))) = W2 at *
   have x5 := X.c5
   have x6 := X.c6
   simp only at x5 x6
   by_cases hp : ph < sc
   . have hle : ph + 1 <= sc := by omega
     have Z := MAt.row Y ⟨ld, v, true, re, iq, sc, ph + 1, st⟩
     have hB2 := below_setRow hB (rl ⟨ld, v, true, re, iq, sc, ph + 1, st⟩).toArray (g := w.heap.size + 1) (by omega)
     go_wp2_with (first | (refine loadM rfl (.tmp 1) rfl rfl X ?_) | (refine storeM rfl (.tmp 2) (.tmp 16) rfl rfl (t := ⟨ld, v, true, re, iq, sc, ph + 1, st⟩) rfl Y ?_))
     refine bodyPost_ret (resM rfl _ _ rfl Z) rfl ⟨?_, hB2⟩
     rw [<- HR.out]
     unfold Tm.one; rw [if_pos rfl, if_pos (show ph < sc by omega)]
   . have hle : ¬ ph + 1 <= sc := by omega
     have f6 := X.free 6
     go_upto_region 7 with (fail)
     have X1 : MAt _ _ ⟨ld, v, true, re, iq, sc, 0, st⟩ := (X.s6 (0))
     have Y1 := (Y.other w.heap.size 6 (.int .u32 (0)) (by omega))
     have hB1 := (hB.setCell (p := ⟨w.heap.size, 6, none⟩) (by simp) (.int .u32 (0)))
     clear X Y hB x5 x6 f6
     have X := X1
     have Y := Y1
     have hB := hB1
     clear X1 Y1 hB1
     generalize (W2.setCell ⟨w.heap.size, 6, none⟩ (.int .u32 (0))) = W3 at *
     have x1 := X.c1
     have f1 := X.free 1
     simp only at x1
     by_cases hv : 1 < v
     . skip
       go_upto_region 9 with (fail)
       have X1 : MAt _ _ ⟨ld, v - 1, true, re, iq, sc, 0, st⟩ := (X.s1 (v - 1))
       have Y1 := (Y.other w.heap.size 1 (.int .u32 (v - 1)) (by omega))
       have hB1 := (hB.setCell (p := ⟨w.heap.size, 1, none⟩) (by simp) (.int .u32 (v - 1)))
       clear X Y hB x1 f1
       have X := X1
       have Y := Y1
       have hB := hB1
       clear X1 Y1 hB1
       generalize (W3.setCell ⟨w.heap.size, 1, none⟩ (.int .u32 (v - 1))) = W4 at *
       have Z := MAt.row Y ⟨ld, v - 1, true, re, iq, sc, 0, st⟩
       have hB2 := below_setRow hB (rl ⟨ld, v - 1, true, re, iq, sc, 0, st⟩).toArray (g := w.heap.size + 1) (by omega)
       go_wp2_with (first | (refine loadM rfl (.tmp 1) rfl rfl X ?_) | (refine storeM rfl (.tmp 2) (.tmp 25) rfl rfl (t := ⟨ld, v - 1, true, re, iq, sc, 0, st⟩) rfl Y ?_))
       refine bodyPost_ret (resM rfl _ _ rfl Z) rfl ⟨?_, hB2⟩
       rw [<- HR.out]
       unfold Tm.one; rw [if_pos rfl, if_neg (show ¬ ph < sc by omega), if_pos (show 1 < v by omega)]
     . have x7 := X.c7
       have f7 := X.free 7
       simp only at x7
       go_upto_region 11 with (fail)
       have X1 : MAt _ _ ⟨ld, v, true, re, iq, sc, 0, true⟩ := (X.s7 (true))
       have Y1 := (Y.other w.heap.size 7 (.bool true) (by omega))
       have hB1 := (hB.setCell (p := ⟨w.heap.size, 7, none⟩) (by simp) (.bool true))
       clear X Y hB x1 f1 x7 f7
       have X := X1
       have Y := Y1
       have hB := hB1
       clear X1 Y1 hB1
       generalize (W3.setCell ⟨w.heap.size, 7, none⟩ (.bool true)) = W4 at *
       have x0 := X.c0
       have x1 := X.c1
       have x2 := X.c2
       have x3 := X.c3
       have x6 := X.c6
       have f1 := X.free 1
       have f2 := X.free 2
       have f6 := X.free 6
       simp only at x0 x1 x2 x3 x6
       cases re
       . skip
         go_upto_region 15 with (fail)
         have X1 : MAt _ _ ⟨ld, 0, false, false, iq, sc, 0, true⟩ := (((X.s1 (0)).s2 (false)).s6 (0))
         have Y1 := (((Y.other w.heap.size 1 (.int .u32 (0)) (by omega)).other w.heap.size 2 (.bool false) (by omega)).other w.heap.size 6 (.int .u32 (0)) (by omega))
         have hB1 := (((hB.setCell (p := ⟨w.heap.size, 1, none⟩) (by simp) (.int .u32 (0))).setCell (p := ⟨w.heap.size, 2, none⟩) (by simp) (.bool false)).setCell (p := ⟨w.heap.size, 6, none⟩) (by simp) (.int .u32 (0)))
         clear X Y hB x0 x1 x2 x3 x6 f1 f2 f6
         have X := X1
         have Y := Y1
         have hB := hB1
         clear X1 Y1 hB1
         generalize (((W4.setCell ⟨w.heap.size, 1, none⟩ (.int .u32 (0))).setCell ⟨w.heap.size, 2, none⟩ (.bool false)).setCell ⟨w.heap.size, 6, none⟩ (.int .u32 (0))) = W5 at *
         have Z := MAt.row Y ⟨ld, 0, false, false, iq, sc, 0, true⟩
         have hB2 := below_setRow hB (rl ⟨ld, 0, false, false, iq, sc, 0, true⟩).toArray (g := w.heap.size + 1) (by omega)
         go_wp2_with (first | (refine loadM rfl (.tmp 1) rfl rfl X ?_) | (refine storeM rfl (.tmp 2) (.tmp 41) rfl rfl (t := ⟨ld, 0, false, false, iq, sc, 0, true⟩) rfl Y ?_))
         refine bodyPost_ret (resM rfl _ _ rfl Z) rfl ⟨?_, hB2⟩
         rw [<- HR.out]
         unfold Tm.one Tm.exp; rw [if_pos rfl, if_neg (show ¬ ph < sc by omega), if_neg (show ¬ 1 < v by omega), if_neg (by simp)]
       . by_cases hl : ld = 0
         . subst hl
           go_upto_region 15 with (fail)
           have X1 : MAt _ _ ⟨0, 0, false, true, iq, sc, 0, true⟩ := (((X.s1 (0)).s2 (false)).s6 (0))
           have Y1 := (((Y.other w.heap.size 1 (.int .u32 (0)) (by omega)).other w.heap.size 2 (.bool false) (by omega)).other w.heap.size 6 (.int .u32 (0)) (by omega))
           have hB1 := (((hB.setCell (p := ⟨w.heap.size, 1, none⟩) (by simp) (.int .u32 (0))).setCell (p := ⟨w.heap.size, 2, none⟩) (by simp) (.bool false)).setCell (p := ⟨w.heap.size, 6, none⟩) (by simp) (.int .u32 (0)))
           clear X Y hB x0 x1 x2 x3 x6 f1 f2 f6
           have X := X1
           have Y := Y1
           have hB := hB1
           clear X1 Y1 hB1
           generalize (((W4.setCell ⟨w.heap.size, 1, none⟩ (.int .u32 (0))).setCell ⟨w.heap.size, 2, none⟩ (.bool false)).setCell ⟨w.heap.size, 6, none⟩ (.int .u32 (0))) = W5 at *
           have Z := MAt.row Y ⟨0, 0, false, true, iq, sc, 0, true⟩
           have hB2 := below_setRow hB (rl ⟨0, 0, false, true, iq, sc, 0, true⟩).toArray (g := w.heap.size + 1) (by omega)
           go_wp2_with (first | (refine loadM rfl (.tmp 1) rfl rfl X ?_) | (refine storeM rfl (.tmp 2) (.tmp 41) rfl rfl (t := ⟨0, 0, false, true, iq, sc, 0, true⟩) rfl Y ?_))
           refine bodyPost_ret (resM rfl _ _ rfl Z) rfl ⟨?_, hB2⟩
           rw [<- HR.out]
           unfold Tm.one Tm.exp; rw [if_pos rfl, if_neg (show ¬ ph < sc by omega), if_neg (show ¬ 1 < v by omega), if_neg (by simp)]
         . have hl2 : (ld == 0) = false := by simpa using hl
           have hl3 : (ld != 0) = true := by simpa using hl
           go_upto_region 13 with (fail)
           have X1 : MAt _ _ ⟨ld, ld, true, true, iq, sc, 0, true⟩ := (X.s1 (ld))
           have Y1 := (Y.other w.heap.size 1 (.int .u32 (ld)) (by omega))
           have hB1 := (hB.setCell (p := ⟨w.heap.size, 1, none⟩) (by simp) (.int .u32 (ld)))
           clear X Y hB x0 x1 x2 x3 x6 f1 f2 f6
           have X := X1
           have Y := Y1
           have hB := hB1
           clear X1 Y1 hB1
           generalize (W4.setCell ⟨w.heap.size, 1, none⟩ (.int .u32 (ld))) = W5 at *
           have Z := MAt.row Y ⟨ld, ld, true, true, iq, sc, 0, true⟩
           have hB2 := below_setRow hB (rl ⟨ld, ld, true, true, iq, sc, 0, true⟩).toArray (g := w.heap.size + 1) (by omega)
           go_wp2_with (first | (refine loadM rfl (.tmp 1) rfl rfl X ?_) | (refine storeM rfl (.tmp 2) (.tmp 37) rfl rfl (t := ⟨ld, ld, true, true, iq, sc, 0, true⟩) rfl Y ?_))
           refine bodyPost_ret (resM rfl _ _ rfl Z) rfl ⟨?_, hB2⟩
           rw [<- HR.out]
           unfold Tm.one Tm.exp; rw [if_pos rfl, if_neg (show ¬ ph < sc by omega), if_neg (show ¬ 1 < v by omega), if_pos (by simp [hl])]
set_option maxRecDepth 100000 in
theorem mLoad (t : Tm) (o : Int) (w : World) (h : t.ok) (o0 : 0 <= o) (o1 : o < 4294967296) :
 Calls Tryz.prog 156 #[.agg (rl t).toArray, .int .u32 o] w fun e w' => e = .returned (.tuple #[.int .u32 (t.val o), .int .i64 (nErr o)]) /\ Below w.heap.size w w' := by
 have hB := trA (tr0 w) (oM t)
 have X : MAt (w.alloc (oM t)) w.heap.size t := blk_new w (oM t)
 obtain ⟨l0, l1, v0, v1, s0, s1, p0, p1⟩ := h
 have hw := X.lt
 have x0 := X.c0
 have x1 := X.c1
 have x2 := X.c2
 have x3 := X.c3
 have x4 := X.c4
 have x5 := X.c5
 have x7 := X.c7
 by_cases h4 : o % 4 = 0
 . have n4 : (o % 4 != 0) = false := by simpa using h4
   by_cases h16 : o < 16
   . rcases (show o = 0 \/ o = 4 \/ o = 8 \/ o = 12 by omega) with rfl | rfl | rfl | rfl
     . go_enter Tryz.func156, Tryz.ntmps156
       go_upto_region 1 with (fail)
       rw [show Obj.cells (rl t).toArray 171 (0, 0) = oM t from rfl]
       generalize (w.alloc (oM t)) = W at *
       go_wp2_with fail
       go_ret2
       exact ⟨rfl, hB⟩
     . go_enter Tryz.func156, Tryz.ntmps156
       go_upto_region 1 with (fail)
       rw [show Obj.cells (rl t).toArray 171 (0, 0) = oM t from rfl]
       generalize (w.alloc (oM t)) = W at *
       go_wp2_with fail
       go_ret2
       exact ⟨rfl, hB⟩
     . have hW := Hd rWordM
       have hv : t.val 8 = (if t.en = true then 1 else 0) + (if t.re = true then 2 else 0) + (if t.iq = true then 4 else 0) + 256 * t.sc := by
        show ctl t.en t.re t.iq t.sc = _
        unfold ctl tk
        cases t.en <;> cases t.re <;> cases t.iq <;> simp
       have hc := ctl_bounds t.en t.re t.iq t.sc s0 s1
       obtain ⟨V, hV⟩ : ∃ V, t.val 8 = V := ⟨_, rfl⟩
       rw [hV] at hv ⊢
       obtain ⟨a, ha⟩ : ∃ a : Int, (if t.en = true then (1 : Int) else 0) = a := ⟨_, rfl⟩
       obtain ⟨b, hb⟩ : ∃ b : Int, (if t.re = true then (2 : Int) else 0) = b := ⟨_, rfl⟩
       obtain ⟨c, hcc⟩ : ∃ c : Int, (if t.iq = true then (4 : Int) else 0) = c := ⟨_, rfl⟩
       have ha2 : 0 <= a /\ a <= 1 := by rw [<- ha]; split <;> omega
       have hb2 : 0 <= b /\ b <= 2 := by rw [<- hb]; split <;> omega
       have hc2 : 0 <= c /\ c <= 4 := by rw [<- hcc]; split <;> omega
       rw [ha, hb, hcc] at hv
       have HV := Hd hv
       have W1 := Hd (fun w => by have := rWordM t.en 1 w; rw [ha] at this; exact this)
       have W2 := Hd (fun w => by have := rWordM t.re 2 w; rw [hb] at this; exact this)
       have W3 := Hd (fun w => by have := rWordM t.iq 4 w; rw [hcc] at this; exact this)
       clear hv ha hb hcc hV hW hc
       go_enter Tryz.func156, Tryz.ntmps156
       go_upto_region 1 with (fail)
       rw [show Obj.cells (rl t).toArray 171 (0, 0) = oM t from rfl]
       generalize (w.alloc (oM t)) = W at *
       go_wp2_with fail
       have hg := gcell
       refine wp_region_quiet_below (by kernel_rfl) (by kernel_rfl) ?_
       repeat (go_big_quiet_step (first
        | (go_at_call 188; exact Calls.regrown_of ((W1.out _).mono fun e w' h => ⟨h.1, h.2 ▸ tr0 _⟩))
        | (go_at_call 188; exact Calls.regrown_of ((W2.out _).mono fun e w' h => ⟨h.1, h.2 ▸ tr0 _⟩))
        | (go_at_call 188; exact Calls.regrown_of ((W3.out _).mono fun e w' h => ⟨h.1, h.2 ▸ tr0 _⟩))))
       refine wpQuiet_nil ?_
       intro _ hw'
       obtain ⟨⟨dq, osq⟩, hw''⟩ := hw'
       subst hw''
       go_wp2_with fail
       go_ret2
       exact ⟨by rw [HV.out]; rfl, trG hB _ _⟩
     . have hv : (if t.st = true then (1 : Int) else 0) = t.val 12 := by
        show _ = tk t.st
        unfold tk; cases t.st <;> simp
       have hW := Hd (fun w => by have := rWordM t.st 1 w; rw [hv] at this; exact this)
       clear hv
       go_enter Tryz.func156, Tryz.ntmps156
       go_upto_region 1 with (fail)
       rw [show Obj.cells (rl t).toArray 171 (0, 0) = oM t from rfl]
       generalize (w.alloc (oM t)) = W at *
       go_wp2_with (go_at_call 188; refine (hW.out _).mono ?_; rintro e w1 ⟨rfl, rfl⟩)
       go_ret2
       exact ⟨rfl, hB⟩
   . have he : nErr o = 10 := by unfold nErr; rw [n4, if_neg (by simp), if_pos (by omega)]
     have hv : t.val o = 0 := by unfold Tm.val; rw [he]; rfl
     rw [he, hv]
     have q0 : (o == 0) = false := by simp; omega
     have q4 : (o == 4) = false := by simp; omega
     have q8 : (o == 8) = false := by simp; omega
     have q12 : (o == 12) = false := by simp; omega
     clear he hv
     go_enter Tryz.func156, Tryz.ntmps156
     go_upto_region 1 with (fail)
     rw [show Obj.cells (rl t).toArray 171 (0, 0) = oM t from rfl]
     generalize (w.alloc (oM t)) = W at *
     go_wp2_with fail
     go_ret2
     exact ⟨rfl, hB⟩
 . have n4 : (o % 4 != 0) = true := by simpa using h4
   have he : nErr o = 11 := by unfold nErr; rw [n4, if_pos rfl]
   have hv : t.val o = 0 := by unfold Tm.val; rw [he]; rfl
   rw [he, hv]
   clear he hv
   go_enter Tryz.func156, Tryz.ntmps156
   go_upto_region 1 with (fail)
   rw [show Obj.cells (rl t).toArray 171 (0, 0) = oM t from rfl]
   generalize (w.alloc (oM t)) = W at *
   go_wp2_with fail
   go_ret2
   exact ⟨rfl, hB⟩
set_option maxHeartbeats 1600000 in
theorem mStore (t : Tm) (o x : Int) (w : World) (h : t.ok) (o0 : 0 <= o) (o1 : o < 4294967296) (x0 : 0 <= x) (x1 : x < 4294967296) :
 Calls Tryz.prog 157 #[.agg (rl t).toArray, .int .u32 o, .int .u32 x] w fun e w' => e = .returned (.tuple #[.agg (rl (if nSErr o = 0 then t.sto o x else t)).toArray, .int .i64 (nSErr o)]) /\ Below w.heap.size w w' := by
 have hB := trA (trA (tr0 w) (oM t)) zM
 have X : MAt ((w.alloc (oM t)).alloc zM) w.heap.size t := b2_0 w (oM t) zM
 have Y : MAt ((w.alloc (oM t)).alloc zM) (w.heap.size + 1) tz := b2_1 w (oM t) zM
 have hLd := Hd (fun w => mLoad t o w h o0 o1)
 by_cases he : nErr o = 0
 . rcases nErr_zero o0 he with rfl | rfl | rfl | rfl
   . rw [show nErr 0 = 0 from rfl] at hLd
     go_enter Tryz.func157, Tryz.ntmps157
     go_upto_region 1 with (fail)
     rw [show Obj.cells (rl t).toArray 171 (0, 0) = oM t from rfl, zM_eq]
     generalize ((w.alloc (oM t)).alloc zM) = W at *
     go_wp2_with (refine loadM rfl (.tmp 3) rfl rfl X ?_)
     refine (hLd.out _).mono ?_
     rintro e W1 ⟨rfl, hb⟩
     have X1 := X.below hb
     have Y1 := Y.below hb
     have hB1 := tr hB hb
     clear X Y hB hb hLd
     have X := X1
     have Y := Y1
     have hB := hB1
     clear X1 Y1 hB1
     have c0 := X.c0
     have f0 := X.free 0
     go_upto_region 17 with (fail)
     have X1 : MAt _ _ { t with ld := x } := (X.s0 (x))
     have Y1 := (Y.other w.heap.size 0 (.int .u32 (x)) (by omega))
     have hB1 := (hB.setCell (p := ⟨w.heap.size, 0, none⟩) (by simp) (.int .u32 (x)))
     clear X Y hB c0 f0
     have X := X1
     have Y := Y1
     have hB := hB1
     clear X1 Y1 hB1
     generalize (W1.setCell ⟨w.heap.size, 0, none⟩ (.int .u32 (x))) = W2 at *
     have Z := MAt.row Y { t with ld := x }
     have hB2 := below_setRow hB (rl { t with ld := x }).toArray (g := w.heap.size + 1) (by omega)
     go_wp2_with (first | (refine loadM rfl (.tmp 3) rfl rfl X ?_) | (refine storeM rfl (.tmp 6) (.tmp 66) rfl rfl (t := { t with ld := x }) rfl Y ?_))
     refine bodyPost_ret (resM2 rfl _ _ _ rfl rfl Z) rfl ⟨rfl, hB2⟩
   . rw [show nErr 4 = 0 from rfl] at hLd
     go_enter Tryz.func157, Tryz.ntmps157
     go_upto_region 1 with (fail)
     rw [show Obj.cells (rl t).toArray 171 (0, 0) = oM t from rfl, zM_eq]
     generalize ((w.alloc (oM t)).alloc zM) = W at *
     go_wp2_with (refine loadM rfl (.tmp 3) rfl rfl X ?_)
     refine (hLd.out _).mono ?_
     rintro e W1 ⟨rfl, hb⟩
     have X1 := X.below hb
     have Y1 := Y.below hb
     have hB1 := tr hB hb
     clear X Y hB hb hLd
     have X := X1
     have Y := Y1
     have hB := hB1
     clear X1 Y1 hB1
     have Z := MAt.row Y t
     have hB2 := below_setRow hB (rl t).toArray (g := w.heap.size + 1) (by omega)
     go_wp2_with (first | (refine loadM rfl (.tmp 3) rfl rfl X ?_) | (refine storeM rfl (.tmp 6) (.tmp 27) rfl rfl (t := t) rfl Y ?_))
     refine bodyPost_ret (resM2 rfl _ _ _ rfl rfl Z) rfl ⟨rfl, hB2⟩
   . rw [show nErr 8 = 0 from rfl] at hLd
     obtain ⟨b0, hb0⟩ : ∃ b, (x % 2 == 1) = b := ⟨_, rfl⟩
     obtain ⟨b1, hb1⟩ : ∃ b, (x / 2 % 2 == 1) = b := ⟨_, rfl⟩
     obtain ⟨b2, hb2⟩ : ∃ b, (x / 4 % 2 == 1) = b := ⟨_, rfl⟩
     have d0 : bit x 0 = b0 := by rw [<- hb0]; unfold bit; rw [show (2 : Int) ^ 0 = 1 from rfl, Int.ediv_one]; rfl
     have d1 : bit x 1 = b1 := by rw [<- hb1]; rfl
     have d2 : bit x 2 = b2 := by rw [<- hb2]; rfl
     have HO : Hid (t.sto 8 x = { t with v := if (!t.en && b0) = true then t.ld else t.v, en := b0, re := b1, iq := b2, sc := x / 256 % 256, ph := 0 }) :=
      Hd (by rw [show t.sto 8 x = t.ord x from rfl]; unfold Tm.ord; rw [d0, d1, d2])
     obtain ⟨l0, l1, v0, v1, s0, s1, p0, p1⟩ := h
     rw [if_pos (by rfl), HO.out]
     clear d0 d1 d2 HO he
     obtain ⟨V, hV⟩ : ∃ V, t.val 8 = V := ⟨_, rfl⟩
     rw [hV] at hLd
     clear hV
     obtain ⟨ld, v, en, re, iq, sc, ph, st⟩ := t
     simp only at l0 l1 v0 v1 s0 s1 p0 p1 ⊢
     have hs : 0 <= x / 256 % 256 /\ x / 256 % 256 < 256 := by omega
     cases en
     . cases b0
       . skip
         go_enter Tryz.func157, Tryz.ntmps157
         go_upto_region 1 with (fail)
         rw [show Obj.cells (rl ⟨ld, v, false, re, iq, sc, ph, st⟩).toArray 171 (0, 0) = oM ⟨ld, v, false, re, iq, sc, ph, st⟩ from rfl, zM_eq]
         generalize ((w.alloc (oM ⟨ld, v, false, re, iq, sc, ph, st⟩)).alloc zM) = W at *
         go_wp2_with (refine loadM rfl (.tmp 3) rfl rfl X ?_)
         refine (hLd.out _).mono ?_
         rintro e W1 ⟨rfl, hb⟩
         have X1 := X.below hb
         have Y1 := Y.below hb
         have hB1 := tr hB hb
         clear X Y hB hb hLd
         have X := X1
         have Y := Y1
         have hB := hB1
         clear X1 Y1 hB1
         have c0 := X.c0
         have c1 := X.c1
         have c2 := X.c2
         have c3 := X.c3
         have c4 := X.c4
         have c5 := X.c5
         have c6 := X.c6
         simp only at c0 c1 c2 c3 c4 c5 c6
         have f1 := X.free 1
         have f2 := X.free 2
         have f3 := X.free 3
         have f4 := X.free 4
         have f5 := X.free 5
         have f6 := X.free 6
         go_upto_region 17 with (fail)
         have X1 : MAt _ _ ⟨ld, v, false, b1, b2, x / 256 % 256, 0, st⟩ := (((((X.s2 (false)).s3 (b1)).s4 (b2)).s5 (x / 256 % 256)).s6 (0))
         have Y1 := (((((Y.other w.heap.size 2 (.bool false) (by omega)).other w.heap.size 3 (.bool b1) (by omega)).other w.heap.size 4 (.bool b2) (by omega)).other w.heap.size 5 (.int .u32 (x / 256 % 256)) (by omega)).other w.heap.size 6 (.int .u32 (0)) (by omega))
         have hB1 := (((((hB.setCell (p := ⟨w.heap.size, 2, none⟩) (by simp) (.bool false)).setCell (p := ⟨w.heap.size, 3, none⟩) (by simp) (.bool b1)).setCell (p := ⟨w.heap.size, 4, none⟩) (by simp) (.bool b2)).setCell (p := ⟨w.heap.size, 5, none⟩) (by simp) (.int .u32 (x / 256 % 256))).setCell (p := ⟨w.heap.size, 6, none⟩) (by simp) (.int .u32 (0)))
         clear X Y hB c0 c1 c2 c3 c4 c5 c6 f1 f2 f3 f4 f5 f6
         have X := X1
         have Y := Y1
         have hB := hB1
         clear X1 Y1 hB1
         generalize (((((W1.setCell ⟨w.heap.size, 2, none⟩ (.bool false)).setCell ⟨w.heap.size, 3, none⟩ (.bool b1)).setCell ⟨w.heap.size, 4, none⟩ (.bool b2)).setCell ⟨w.heap.size, 5, none⟩ (.int .u32 (x / 256 % 256))).setCell ⟨w.heap.size, 6, none⟩ (.int .u32 (0))) = W2 at *
         have Z := MAt.row Y ⟨ld, v, false, b1, b2, x / 256 % 256, 0, st⟩
         have hB2 := below_setRow hB (rl ⟨ld, v, false, b1, b2, x / 256 % 256, 0, st⟩).toArray (g := w.heap.size + 1) (by omega)
         go_wp2_with (first | (refine loadM rfl (.tmp 3) rfl rfl X ?_) | (refine storeM rfl (.tmp 6) (.tmp 66) rfl rfl (t := ⟨ld, v, false, b1, b2, x / 256 % 256, 0, st⟩) rfl Y ?_))
         refine bodyPost_ret (resM2 rfl _ _ _ rfl rfl Z) rfl ⟨rfl, hB2⟩
       . skip
         go_enter Tryz.func157, Tryz.ntmps157
         go_upto_region 1 with (fail)
         rw [show Obj.cells (rl ⟨ld, v, false, re, iq, sc, ph, st⟩).toArray 171 (0, 0) = oM ⟨ld, v, false, re, iq, sc, ph, st⟩ from rfl, zM_eq]
         generalize ((w.alloc (oM ⟨ld, v, false, re, iq, sc, ph, st⟩)).alloc zM) = W at *
         go_wp2_with (refine loadM rfl (.tmp 3) rfl rfl X ?_)
         refine (hLd.out _).mono ?_
         rintro e W1 ⟨rfl, hb⟩
         have X1 := X.below hb
         have Y1 := Y.below hb
         have hB1 := tr hB hb
         clear X Y hB hb hLd
         have X := X1
         have Y := Y1
         have hB := hB1
         clear X1 Y1 hB1
         have c0 := X.c0
         have c1 := X.c1
         have c2 := X.c2
         have c3 := X.c3
         have c4 := X.c4
         have c5 := X.c5
         have c6 := X.c6
         simp only at c0 c1 c2 c3 c4 c5 c6
         have f1 := X.free 1
         have f2 := X.free 2
         have f3 := X.free 3
         have f4 := X.free 4
         have f5 := X.free 5
         have f6 := X.free 6
         go_upto_region 17 with (fail)
         have X1 : MAt _ _ ⟨ld, ld, true, b1, b2, x / 256 % 256, 0, st⟩ := ((((((X.s1 (ld)).s2 (true)).s3 (b1)).s4 (b2)).s5 (x / 256 % 256)).s6 (0))
         have Y1 := ((((((Y.other w.heap.size 1 (.int .u32 (ld)) (by omega)).other w.heap.size 2 (.bool true) (by omega)).other w.heap.size 3 (.bool b1) (by omega)).other w.heap.size 4 (.bool b2) (by omega)).other w.heap.size 5 (.int .u32 (x / 256 % 256)) (by omega)).other w.heap.size 6 (.int .u32 (0)) (by omega))
         have hB1 := ((((((hB.setCell (p := ⟨w.heap.size, 1, none⟩) (by simp) (.int .u32 (ld))).setCell (p := ⟨w.heap.size, 2, none⟩) (by simp) (.bool true)).setCell (p := ⟨w.heap.size, 3, none⟩) (by simp) (.bool b1)).setCell (p := ⟨w.heap.size, 4, none⟩) (by simp) (.bool b2)).setCell (p := ⟨w.heap.size, 5, none⟩) (by simp) (.int .u32 (x / 256 % 256))).setCell (p := ⟨w.heap.size, 6, none⟩) (by simp) (.int .u32 (0)))
         clear X Y hB c0 c1 c2 c3 c4 c5 c6 f1 f2 f3 f4 f5 f6
         have X := X1
         have Y := Y1
         have hB := hB1
         clear X1 Y1 hB1
         generalize ((((((W1.setCell ⟨w.heap.size, 1, none⟩ (.int .u32 (ld))).setCell ⟨w.heap.size, 2, none⟩ (.bool true)).setCell ⟨w.heap.size, 3, none⟩ (.bool b1)).setCell ⟨w.heap.size, 4, none⟩ (.bool b2)).setCell ⟨w.heap.size, 5, none⟩ (.int .u32 (x / 256 % 256))).setCell ⟨w.heap.size, 6, none⟩ (.int .u32 (0))) = W2 at *
         have Z := MAt.row Y ⟨ld, ld, true, b1, b2, x / 256 % 256, 0, st⟩
         have hB2 := below_setRow hB (rl ⟨ld, ld, true, b1, b2, x / 256 % 256, 0, st⟩).toArray (g := w.heap.size + 1) (by omega)
         go_wp2_with (first | (refine loadM rfl (.tmp 3) rfl rfl X ?_) | (refine storeM rfl (.tmp 6) (.tmp 66) rfl rfl (t := ⟨ld, ld, true, b1, b2, x / 256 % 256, 0, st⟩) rfl Y ?_))
         refine bodyPost_ret (resM2 rfl _ _ _ rfl rfl Z) rfl ⟨rfl, hB2⟩
     . cases b0
       . skip
         go_enter Tryz.func157, Tryz.ntmps157
         go_upto_region 1 with (fail)
         rw [show Obj.cells (rl ⟨ld, v, true, re, iq, sc, ph, st⟩).toArray 171 (0, 0) = oM ⟨ld, v, true, re, iq, sc, ph, st⟩ from rfl, zM_eq]
         generalize ((w.alloc (oM ⟨ld, v, true, re, iq, sc, ph, st⟩)).alloc zM) = W at *
         go_wp2_with (refine loadM rfl (.tmp 3) rfl rfl X ?_)
         refine (hLd.out _).mono ?_
         rintro e W1 ⟨rfl, hb⟩
         have X1 := X.below hb
         have Y1 := Y.below hb
         have hB1 := tr hB hb
         clear X Y hB hb hLd
         have X := X1
         have Y := Y1
         have hB := hB1
         clear X1 Y1 hB1
         have c0 := X.c0
         have c1 := X.c1
         have c2 := X.c2
         have c3 := X.c3
         have c4 := X.c4
         have c5 := X.c5
         have c6 := X.c6
         simp only at c0 c1 c2 c3 c4 c5 c6
         have f1 := X.free 1
         have f2 := X.free 2
         have f3 := X.free 3
         have f4 := X.free 4
         have f5 := X.free 5
         have f6 := X.free 6
         go_upto_region 17 with (fail)
         have X1 : MAt _ _ ⟨ld, v, false, b1, b2, x / 256 % 256, 0, st⟩ := (((((X.s2 (false)).s3 (b1)).s4 (b2)).s5 (x / 256 % 256)).s6 (0))
         have Y1 := (((((Y.other w.heap.size 2 (.bool false) (by omega)).other w.heap.size 3 (.bool b1) (by omega)).other w.heap.size 4 (.bool b2) (by omega)).other w.heap.size 5 (.int .u32 (x / 256 % 256)) (by omega)).other w.heap.size 6 (.int .u32 (0)) (by omega))
         have hB1 := (((((hB.setCell (p := ⟨w.heap.size, 2, none⟩) (by simp) (.bool false)).setCell (p := ⟨w.heap.size, 3, none⟩) (by simp) (.bool b1)).setCell (p := ⟨w.heap.size, 4, none⟩) (by simp) (.bool b2)).setCell (p := ⟨w.heap.size, 5, none⟩) (by simp) (.int .u32 (x / 256 % 256))).setCell (p := ⟨w.heap.size, 6, none⟩) (by simp) (.int .u32 (0)))
         clear X Y hB c0 c1 c2 c3 c4 c5 c6 f1 f2 f3 f4 f5 f6
         have X := X1
         have Y := Y1
         have hB := hB1
         clear X1 Y1 hB1
         generalize (((((W1.setCell ⟨w.heap.size, 2, none⟩ (.bool false)).setCell ⟨w.heap.size, 3, none⟩ (.bool b1)).setCell ⟨w.heap.size, 4, none⟩ (.bool b2)).setCell ⟨w.heap.size, 5, none⟩ (.int .u32 (x / 256 % 256))).setCell ⟨w.heap.size, 6, none⟩ (.int .u32 (0))) = W2 at *
         have Z := MAt.row Y ⟨ld, v, false, b1, b2, x / 256 % 256, 0, st⟩
         have hB2 := below_setRow hB (rl ⟨ld, v, false, b1, b2, x / 256 % 256, 0, st⟩).toArray (g := w.heap.size + 1) (by omega)
         go_wp2_with (first | (refine loadM rfl (.tmp 3) rfl rfl X ?_) | (refine storeM rfl (.tmp 6) (.tmp 66) rfl rfl (t := ⟨ld, v, false, b1, b2, x / 256 % 256, 0, st⟩) rfl Y ?_))
         refine bodyPost_ret (resM2 rfl _ _ _ rfl rfl Z) rfl ⟨rfl, hB2⟩
       . skip
         go_enter Tryz.func157, Tryz.ntmps157
         go_upto_region 1 with (fail)
         rw [show Obj.cells (rl ⟨ld, v, true, re, iq, sc, ph, st⟩).toArray 171 (0, 0) = oM ⟨ld, v, true, re, iq, sc, ph, st⟩ from rfl, zM_eq]
         generalize ((w.alloc (oM ⟨ld, v, true, re, iq, sc, ph, st⟩)).alloc zM) = W at *
         go_wp2_with (refine loadM rfl (.tmp 3) rfl rfl X ?_)
         refine (hLd.out _).mono ?_
         rintro e W1 ⟨rfl, hb⟩
         have X1 := X.below hb
         have Y1 := Y.below hb
         have hB1 := tr hB hb
         clear X Y hB hb hLd
         have X := X1
         have Y := Y1
         have hB := hB1
         clear X1 Y1 hB1
         have c0 := X.c0
         have c1 := X.c1
         have c2 := X.c2
         have c3 := X.c3
         have c4 := X.c4
         have c5 := X.c5
         have c6 := X.c6
         simp only at c0 c1 c2 c3 c4 c5 c6
         have f1 := X.free 1
         have f2 := X.free 2
         have f3 := X.free 3
         have f4 := X.free 4
         have f5 := X.free 5
         have f6 := X.free 6
         go_upto_region 17 with (fail)
         have X1 : MAt _ _ ⟨ld, v, true, b1, b2, x / 256 % 256, 0, st⟩ := (((((X.s2 (true)).s3 (b1)).s4 (b2)).s5 (x / 256 % 256)).s6 (0))
         have Y1 := (((((Y.other w.heap.size 2 (.bool true) (by omega)).other w.heap.size 3 (.bool b1) (by omega)).other w.heap.size 4 (.bool b2) (by omega)).other w.heap.size 5 (.int .u32 (x / 256 % 256)) (by omega)).other w.heap.size 6 (.int .u32 (0)) (by omega))
         have hB1 := (((((hB.setCell (p := ⟨w.heap.size, 2, none⟩) (by simp) (.bool true)).setCell (p := ⟨w.heap.size, 3, none⟩) (by simp) (.bool b1)).setCell (p := ⟨w.heap.size, 4, none⟩) (by simp) (.bool b2)).setCell (p := ⟨w.heap.size, 5, none⟩) (by simp) (.int .u32 (x / 256 % 256))).setCell (p := ⟨w.heap.size, 6, none⟩) (by simp) (.int .u32 (0)))
         clear X Y hB c0 c1 c2 c3 c4 c5 c6 f1 f2 f3 f4 f5 f6
         have X := X1
         have Y := Y1
         have hB := hB1
         clear X1 Y1 hB1
         generalize (((((W1.setCell ⟨w.heap.size, 2, none⟩ (.bool true)).setCell ⟨w.heap.size, 3, none⟩ (.bool b1)).setCell ⟨w.heap.size, 4, none⟩ (.bool b2)).setCell ⟨w.heap.size, 5, none⟩ (.int .u32 (x / 256 % 256))).setCell ⟨w.heap.size, 6, none⟩ (.int .u32 (0))) = W2 at *
         have Z := MAt.row Y ⟨ld, v, true, b1, b2, x / 256 % 256, 0, st⟩
         have hB2 := below_setRow hB (rl ⟨ld, v, true, b1, b2, x / 256 % 256, 0, st⟩).toArray (g := w.heap.size + 1) (by omega)
         go_wp2_with (first | (refine loadM rfl (.tmp 3) rfl rfl X ?_) | (refine storeM rfl (.tmp 6) (.tmp 66) rfl rfl (t := ⟨ld, v, true, b1, b2, x / 256 % 256, 0, st⟩) rfl Y ?_))
         refine bodyPost_ret (resM2 rfl _ _ _ rfl rfl Z) rfl ⟨rfl, hB2⟩
   . rw [show nErr 12 = 0 from rfl] at hLd
     obtain ⟨b0, hb0⟩ : ∃ b, (x % 2 == 1) = b := ⟨_, rfl⟩
     have d0 : bit x 0 = b0 := by rw [<- hb0]; unfold bit; rw [show (2 : Int) ^ 0 = 1 from rfl, Int.ediv_one]; rfl
     have HO : Hid (t.sto 12 x = { t with st := t.st && !b0 }) := Hd (by rw [show t.sto 12 x = { t with st := t.st && !bit x 0 } from rfl, d0])
     obtain ⟨l0, l1, v0, v1, s0, s1, p0, p1⟩ := h
     rw [if_pos (by rfl), HO.out]
     clear d0 HO he
     obtain ⟨V, hV⟩ : ∃ V, t.val 12 = V := ⟨_, rfl⟩
     rw [hV] at hLd
     clear hV
     obtain ⟨ld, v, en, re, iq, sc, ph, st⟩ := t
     simp only at l0 l1 v0 v1 s0 s1 p0 p1 ⊢
     cases b0
     . simp only [Bool.not_false, Bool.and_true]
       go_enter Tryz.func157, Tryz.ntmps157
       go_upto_region 1 with (fail)
       rw [show Obj.cells (rl ⟨ld, v, en, re, iq, sc, ph, st⟩).toArray 171 (0, 0) = oM ⟨ld, v, en, re, iq, sc, ph, st⟩ from rfl, zM_eq]
       generalize ((w.alloc (oM ⟨ld, v, en, re, iq, sc, ph, st⟩)).alloc zM) = W at *
       go_wp2_with (refine loadM rfl (.tmp 3) rfl rfl X ?_)
       refine (hLd.out _).mono ?_
       rintro e W1 ⟨rfl, hb⟩
       have X1 := X.below hb
       have Y1 := Y.below hb
       have hB1 := tr hB hb
       clear X Y hB hb hLd
       have X := X1
       have Y := Y1
       have hB := hB1
       clear X1 Y1 hB1
       have Z := MAt.row Y ⟨ld, v, en, re, iq, sc, ph, st⟩
       have hB2 := below_setRow hB (rl ⟨ld, v, en, re, iq, sc, ph, st⟩).toArray (g := w.heap.size + 1) (by omega)
       go_wp2_with (first | (refine loadM rfl (.tmp 3) rfl rfl X ?_) | (refine storeM rfl (.tmp 6) (.tmp 66) rfl rfl (t := ⟨ld, v, en, re, iq, sc, ph, st⟩) rfl Y ?_))
       refine bodyPost_ret (resM2 rfl _ _ _ rfl rfl Z) rfl ⟨rfl, hB2⟩
     . simp only [Bool.not_true, Bool.and_false]
       go_enter Tryz.func157, Tryz.ntmps157
       go_upto_region 1 with (fail)
       rw [show Obj.cells (rl ⟨ld, v, en, re, iq, sc, ph, st⟩).toArray 171 (0, 0) = oM ⟨ld, v, en, re, iq, sc, ph, st⟩ from rfl, zM_eq]
       generalize ((w.alloc (oM ⟨ld, v, en, re, iq, sc, ph, st⟩)).alloc zM) = W at *
       go_wp2_with (refine loadM rfl (.tmp 3) rfl rfl X ?_)
       refine (hLd.out _).mono ?_
       rintro e W1 ⟨rfl, hb⟩
       have X1 := X.below hb
       have Y1 := Y.below hb
       have hB1 := tr hB hb
       clear X Y hB hb hLd
       have X := X1
       have Y := Y1
       have hB := hB1
       clear X1 Y1 hB1
       have c7 := X.c7
       have f7 := X.free 7
       go_upto_region 17 with (fail)
       have X1 : MAt _ _ ⟨ld, v, en, re, iq, sc, ph, false⟩ := (X.s7 (false))
       have Y1 := (Y.other w.heap.size 7 (.bool false) (by omega))
       have hB1 := (hB.setCell (p := ⟨w.heap.size, 7, none⟩) (by simp) (.bool false))
       clear X Y hB c7 f7
       have X := X1
       have Y := Y1
       have hB := hB1
       clear X1 Y1 hB1
       generalize (W1.setCell ⟨w.heap.size, 7, none⟩ (.bool false)) = W2 at *
       have Z := MAt.row Y ⟨ld, v, en, re, iq, sc, ph, false⟩
       have hB2 := below_setRow hB (rl ⟨ld, v, en, re, iq, sc, ph, false⟩).toArray (g := w.heap.size + 1) (by omega)
       go_wp2_with (first | (refine loadM rfl (.tmp 3) rfl rfl X ?_) | (refine storeM rfl (.tmp 6) (.tmp 66) rfl rfl (t := ⟨ld, v, en, re, iq, sc, ph, false⟩) rfl Y ?_))
       refine bodyPost_ret (resM2 rfl _ _ _ rfl rfl Z) rfl ⟨rfl, hB2⟩
 . have hs : nSErr o = nErr o := by unfold nSErr; rw [if_neg he]
   rw [hs, if_neg he]
   clear hs
   obtain ⟨E, hE⟩ : ∃ E, nErr o = E := ⟨_, rfl⟩
   obtain ⟨V, hV⟩ : ∃ V, t.val o = V := ⟨_, rfl⟩
   rw [hE, hV] at hLd
   rw [hE] at he ⊢
   have hn : (E == 0) = false := by simpa using he
   have hn2 : (E != 0) = true := by simpa using he
   clear hE hV he
   go_enter Tryz.func157, Tryz.ntmps157
   go_upto_region 1 with (fail)
   rw [show Obj.cells (rl t).toArray 171 (0, 0) = oM t from rfl, zM_eq]
   generalize ((w.alloc (oM t)).alloc zM) = W at *
   go_wp2_with (refine loadM rfl (.tmp 3) rfl rfl X ?_)
   refine (hLd.out _).mono ?_
   rintro e W1 ⟨rfl, hb⟩
   have X1 := X.below hb
   have Y1 := Y.below hb
   have hB1 := tr hB hb
   clear X Y hB hb hLd
   have X := X1
   have Y := Y1
   have hB := hB1
   clear X1 Y1 hB1
   have Z := MAt.row Y t
   have hB2 := below_setRow hB (rl t).toArray (g := w.heap.size + 1) (by omega)
   go_wp2_with (first | (refine loadM rfl (.tmp 3) rfl rfl X ?_) | (refine storeM rfl (.tmp 6) (.tmp 18) rfl rfl (t := t) rfl Y ?_))
   refine bodyPost_ret (resM2 rfl _ _ _ rfl rfl Z) rfl ⟨rfl, hB2⟩
end Go.Proofs.YtcgmnjajodegmaaGreat.B
