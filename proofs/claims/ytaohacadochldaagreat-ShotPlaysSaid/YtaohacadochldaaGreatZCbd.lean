/- A part of the proof of a law of layer 12: bd. -/
import Derived.Test.YtaohacadochldaaGreatZCbc
set_option linter.unusedVariables false
set_option linter.unusedSimpArgs false
set_option maxHeartbeats 12800000
set_option maxRecDepth 100000
namespace Go.Proofs.YtaohacadochldaaGreat.B
open Go.Proofs.Tryz
open Go.ChangeShapes Go.WideShapes Go.RowKit Go.Sort
theorem iX {P : Prop} (h : P := by
 refine bodyPost_ret (aKf rfl _ _ _ rfl rfl Z) rfl ⟨rfl, hB2⟩
 ) : P := h
theorem wB {P : Prop} (h : P := by
 go_wp2_with (refine eE rfl (.tmp 3) rfl rfl X ?_)
 refine (hLd.out _).mono ?_
 rintro e W1 ⟨rfl, hb⟩
 have X1 := X.below hb
 have Y1 := Y.below hb
 have hB1 := tr hB hb
 clear X Y hB hb hLd
 have X := X1
 have Y := Y1
 have hB := hB1
 clear X1 Y1 hB1
 have c0 := X.c0
 have c1 := X.c1
 have c2 := X.c2
 have c3 := X.c3
 have c4 := X.c4
 have c5 := X.c5
 have c6 := X.c6
 simp only at c0 c1 c2 c3 c4 c5 c6
 have f1 := X.free 1
 have f2 := X.free 2
 have f3 := X.free 3
 have f4 := X.free 4
 have f5 := X.free 5
 have f6 := X.free 6
 go_upto_region 17 with (fail)
 have X1 : cX _ _ ⟨ld, v, false, b1, b2, x / 256 % 256, 0, st⟩ := (((((X.s2 (false)).s3 (b1)).s4 (b2)).s5 (x / 256 % 256)).s6 (0))
 have Y1 := (((((Y.other w.heap.size 2 (.bool false) (by omega)).other w.heap.size 3 (.bool b1) (by omega)).other w.heap.size 4 (.bool b2) (by omega)).other w.heap.size 5 (.int .u32 (x / 256 % 256)) (by omega)).other w.heap.size 6 (.int .u32 (0)) (by omega))
 have hB1 := (((((hB.setCell (p := ⟨w.heap.size, 2, none⟩) (by simp) (.bool false)).setCell (p := ⟨w.heap.size, 3, none⟩) (by simp) (.bool b1)).setCell (p := ⟨w.heap.size, 4, none⟩) (by simp) (.bool b2)).setCell (p := ⟨w.heap.size, 5, none⟩) (by simp) (.int .u32 (x / 256 % 256))).setCell (p := ⟨w.heap.size, 6, none⟩) (by simp) (.int .u32 (0)))
 clear X Y hB c0 c1 c2 c3 c4 c5 c6 f1 f2 f3 f4 f5 f6
 have X := X1
 have Y := Y1
 have hB := hB1
 clear X1 Y1 hB1
 generalize (((((W1.setCell ⟨w.heap.size, 2, none⟩ (.bool false)).setCell ⟨w.heap.size, 3, none⟩ (.bool b1)).setCell ⟨w.heap.size, 4, none⟩ (.bool b2)).setCell ⟨w.heap.size, 5, none⟩ (.int .u32 (x / 256 % 256))).setCell ⟨w.heap.size, 6, none⟩ (.int .u32 (0))) = W2 at *
 have Z := cX.row Y ⟨ld, v, false, b1, b2, x / 256 % 256, 0, st⟩
 have hB2 := aB hB (rl ⟨ld, v, false, b1, b2, x / 256 % 256, 0, st⟩).toArray (g := w.heap.size + 1) (by omega)
 go_wp2_with (first | (refine eE rfl (.tmp 3) rfl rfl X ?_) | (refine fE rfl (.tmp 6) (.tmp 66) rfl rfl (t := ⟨ld, v, false, b1, b2, x / 256 % 256, 0, st⟩) rfl Y ?_))
 refine bodyPost_ret (aKf rfl _ _ _ rfl rfl Z) rfl ⟨rfl, hB2⟩
 ) : P := h
theorem aMC (t : Tm) (o x : Int) (w : World) (h : t.ok) (o0 : 0 <= o) (o1 : o < 4294967296) (x0 : 0 <= x) (x1 : x < 4294967296) :
 Calls prog 195 #[.agg (rl t).toArray, .int .u32 o, .int .u32 x] w fun e w' => e = .returned (.tuple #[.agg (rl (if fV o = 0 then t.sto o x else t)).toArray, .int .i64 (fV o)]) /\ Below w.heap.size w w' := by
 have hB := aE (aE (aH w) (oM t)) zM
 have X : cX ((w.alloc (oM t)).alloc zM) w.heap.size t := bM w (oM t) zM
 have Y : cX ((w.alloc (oM t)).alloc zM) (w.heap.size + 1) tz := bU w (oM t) zM
 have hLd := Hd (fun w => aGh t o w h o0 o1)
 by_cases he : fR o = 0
 . rcases rV o0 he with rfl | rfl | rfl | rfl
   . rw [show fR 0 = 0 from rfl] at hLd
     go_enter func195, ntmps195
     go_upto_region 1 with (fail)
     rw [show Obj.cells (rl t).toArray 220 (0, 0) = oM t from rfl, lJ]
     generalize ((w.alloc (oM t)).alloc zM) = W at *
     go_wp2_with (refine eE rfl (.tmp 3) rfl rfl X ?_)
     refine (hLd.out _).mono ?_
     rintro e W1 ⟨rfl, hb⟩
     have X1 := X.below hb
     have Y1 := Y.below hb
     have hB1 := tr hB hb
     clear X Y hB hb hLd
     have X := X1
     have Y := Y1
     have hB := hB1
     clear X1 Y1 hB1
     have c0 := X.c0
     have f0 := X.free 0
     go_upto_region 17 with (fail)
     have X1 : cX _ _ { t with ld := x } := (X.s0 (x))
     have Y1 := (Y.other w.heap.size 0 (.int .u32 (x)) (by omega))
     have hB1 := (hB.setCell (p := ⟨w.heap.size, 0, none⟩) (by simp) (.int .u32 (x)))
     clear X Y hB c0 f0
     have X := X1
     have Y := Y1
     have hB := hB1
     clear X1 Y1 hB1
     generalize (W1.setCell ⟨w.heap.size, 0, none⟩ (.int .u32 (x))) = W2 at *
     have Z := cX.row Y { t with ld := x }
     have hB2 := aB hB (rl { t with ld := x }).toArray (g := w.heap.size + 1) (by omega)
     go_wp2_with (first | (refine eE rfl (.tmp 3) rfl rfl X ?_) | (refine fE rfl (.tmp 6) (.tmp 66) rfl rfl (t := { t with ld := x }) rfl Y ?_))
     exact iX
   . rw [show fR 4 = 0 from rfl] at hLd
     go_enter func195, ntmps195
     go_upto_region 1 with (fail)
     rw [show Obj.cells (rl t).toArray 220 (0, 0) = oM t from rfl, lJ]
     generalize ((w.alloc (oM t)).alloc zM) = W at *
     go_wp2_with (refine eE rfl (.tmp 3) rfl rfl X ?_)
     refine (hLd.out _).mono ?_
     rintro e W1 ⟨rfl, hb⟩
     have X1 := X.below hb
     have Y1 := Y.below hb
     have hB1 := tr hB hb
     clear X Y hB hb hLd
     have X := X1
     have Y := Y1
     have hB := hB1
     clear X1 Y1 hB1
     have Z := cX.row Y t
     have hB2 := aB hB (rl t).toArray (g := w.heap.size + 1) (by omega)
     go_wp2_with (first | (refine eE rfl (.tmp 3) rfl rfl X ?_) | (refine fE rfl (.tmp 6) (.tmp 27) rfl rfl (t := t) rfl Y ?_))
     exact iX
   . rw [show fR 8 = 0 from rfl] at hLd
     obtain ⟨b0, hb0⟩ : ∃ b, (x % 2 == 1) = b := ⟨_, rfl⟩
     obtain ⟨b1, hb1⟩ : ∃ b, (x / 2 % 2 == 1) = b := ⟨_, rfl⟩
     obtain ⟨b2, hb2⟩ : ∃ b, (x / 4 % 2 == 1) = b := ⟨_, rfl⟩
     have d0 : aO x 0 = b0 := by rw [<- hb0]; unfold aO; rw [show (2 : Int) ^ 0 = 1 from rfl, Int.ediv_one]; rfl
     have d1 : aO x 1 = b1 := by rw [<- hb1]; rfl
     have d2 : aO x 2 = b2 := by rw [<- hb2]; rfl
     have HO : Hid (t.sto 8 x = { t with v := if (!t.en && b0) = true then t.ld else t.v, en := b0, re := b1, iq := b2, sc := x / 256 % 256, ph := 0 }) :=
      Hd (by rw [show t.sto 8 x = t.ord x from rfl]; unfold Tm.ord; rw [d0, d1, d2])
     obtain ⟨l0, l1, v0, v1, s0, s1, p0, p1⟩ := h
     rw [if_pos (by rfl), HO.out]
     clear d0 d1 d2 HO he
     obtain ⟨V, hV⟩ : ∃ V, t.val 8 = V := ⟨_, rfl⟩
     rw [hV] at hLd
     clear hV
     obtain ⟨ld, v, en, re, iq, sc, ph, st⟩ := t
     simp only at l0 l1 v0 v1 s0 s1 p0 p1 ⊢
     have hs : 0 <= x / 256 % 256 /\ x / 256 % 256 < 256 := by omega
     cases en
     . cases b0
       . skip
         go_enter func195, ntmps195
         go_upto_region 1 with (fail)
         rw [show Obj.cells (rl ⟨ld, v, false, re, iq, sc, ph, st⟩).toArray 220 (0, 0) = oM ⟨ld, v, false, re, iq, sc, ph, st⟩ from rfl, lJ]
         generalize ((w.alloc (oM ⟨ld, v, false, re, iq, sc, ph, st⟩)).alloc zM) = W at *
         exact wB
       . skip
         go_enter func195, ntmps195
         go_upto_region 1 with (fail)
         rw [show Obj.cells (rl ⟨ld, v, false, re, iq, sc, ph, st⟩).toArray 220 (0, 0) = oM ⟨ld, v, false, re, iq, sc, ph, st⟩ from rfl, lJ]
         generalize ((w.alloc (oM ⟨ld, v, false, re, iq, sc, ph, st⟩)).alloc zM) = W at *
         go_wp2_with (refine eE rfl (.tmp 3) rfl rfl X ?_)
         refine (hLd.out _).mono ?_
         rintro e W1 ⟨rfl, hb⟩
         have X1 := X.below hb
         have Y1 := Y.below hb
         have hB1 := tr hB hb
         clear X Y hB hb hLd
         have X := X1
         have Y := Y1
         have hB := hB1
         clear X1 Y1 hB1
         have c0 := X.c0
         have c1 := X.c1
         have c2 := X.c2
         have c3 := X.c3
         have c4 := X.c4
         have c5 := X.c5
         have c6 := X.c6
         simp only at c0 c1 c2 c3 c4 c5 c6
         have f1 := X.free 1
         have f2 := X.free 2
         have f3 := X.free 3
         have f4 := X.free 4
         have f5 := X.free 5
         have f6 := X.free 6
         go_upto_region 17 with (fail)
         have X1 : cX _ _ ⟨ld, ld, true, b1, b2, x / 256 % 256, 0, st⟩ := ((((((X.s1 (ld)).s2 (true)).s3 (b1)).s4 (b2)).s5 (x / 256 % 256)).s6 (0))
         have Y1 := ((((((Y.other w.heap.size 1 (.int .u32 (ld)) (by omega)).other w.heap.size 2 (.bool true) (by omega)).other w.heap.size 3 (.bool b1) (by omega)).other w.heap.size 4 (.bool b2) (by omega)).other w.heap.size 5 (.int .u32 (x / 256 % 256)) (by omega)).other w.heap.size 6 (.int .u32 (0)) (by omega))
         have hB1 := ((((((hB.setCell (p := ⟨w.heap.size, 1, none⟩) (by simp) (.int .u32 (ld))).setCell (p := ⟨w.heap.size, 2, none⟩) (by simp) (.bool true)).setCell (p := ⟨w.heap.size, 3, none⟩) (by simp) (.bool b1)).setCell (p := ⟨w.heap.size, 4, none⟩) (by simp) (.bool b2)).setCell (p := ⟨w.heap.size, 5, none⟩) (by simp) (.int .u32 (x / 256 % 256))).setCell (p := ⟨w.heap.size, 6, none⟩) (by simp) (.int .u32 (0)))
         clear X Y hB c0 c1 c2 c3 c4 c5 c6 f1 f2 f3 f4 f5 f6
         have X := X1
         have Y := Y1
         have hB := hB1
         clear X1 Y1 hB1
         generalize ((((((W1.setCell ⟨w.heap.size, 1, none⟩ (.int .u32 (ld))).setCell ⟨w.heap.size, 2, none⟩ (.bool true)).setCell ⟨w.heap.size, 3, none⟩ (.bool b1)).setCell ⟨w.heap.size, 4, none⟩ (.bool b2)).setCell ⟨w.heap.size, 5, none⟩ (.int .u32 (x / 256 % 256))).setCell ⟨w.heap.size, 6, none⟩ (.int .u32 (0))) = W2 at *
         have Z := cX.row Y ⟨ld, ld, true, b1, b2, x / 256 % 256, 0, st⟩
         have hB2 := aB hB (rl ⟨ld, ld, true, b1, b2, x / 256 % 256, 0, st⟩).toArray (g := w.heap.size + 1) (by omega)
         go_wp2_with (first | (refine eE rfl (.tmp 3) rfl rfl X ?_) | (refine fE rfl (.tmp 6) (.tmp 66) rfl rfl (t := ⟨ld, ld, true, b1, b2, x / 256 % 256, 0, st⟩) rfl Y ?_))
         exact iX
     . cases b0
       . skip
         go_enter func195, ntmps195
         go_upto_region 1 with (fail)
         rw [show Obj.cells (rl ⟨ld, v, true, re, iq, sc, ph, st⟩).toArray 220 (0, 0) = oM ⟨ld, v, true, re, iq, sc, ph, st⟩ from rfl, lJ]
         generalize ((w.alloc (oM ⟨ld, v, true, re, iq, sc, ph, st⟩)).alloc zM) = W at *
         exact wB
       . skip
         go_enter func195, ntmps195
         go_upto_region 1 with (fail)
         rw [show Obj.cells (rl ⟨ld, v, true, re, iq, sc, ph, st⟩).toArray 220 (0, 0) = oM ⟨ld, v, true, re, iq, sc, ph, st⟩ from rfl, lJ]
         generalize ((w.alloc (oM ⟨ld, v, true, re, iq, sc, ph, st⟩)).alloc zM) = W at *
         go_wp2_with (refine eE rfl (.tmp 3) rfl rfl X ?_)
         refine (hLd.out _).mono ?_
         rintro e W1 ⟨rfl, hb⟩
         have X1 := X.below hb
         have Y1 := Y.below hb
         have hB1 := tr hB hb
         clear X Y hB hb hLd
         have X := X1
         have Y := Y1
         have hB := hB1
         clear X1 Y1 hB1
         have c0 := X.c0
         have c1 := X.c1
         have c2 := X.c2
         have c3 := X.c3
         have c4 := X.c4
         have c5 := X.c5
         have c6 := X.c6
         simp only at c0 c1 c2 c3 c4 c5 c6
         have f1 := X.free 1
         have f2 := X.free 2
         have f3 := X.free 3
         have f4 := X.free 4
         have f5 := X.free 5
         have f6 := X.free 6
         go_upto_region 17 with (fail)
         have X1 : cX _ _ ⟨ld, v, true, b1, b2, x / 256 % 256, 0, st⟩ := (((((X.s2 (true)).s3 (b1)).s4 (b2)).s5 (x / 256 % 256)).s6 (0))
         have Y1 := (((((Y.other w.heap.size 2 (.bool true) (by omega)).other w.heap.size 3 (.bool b1) (by omega)).other w.heap.size 4 (.bool b2) (by omega)).other w.heap.size 5 (.int .u32 (x / 256 % 256)) (by omega)).other w.heap.size 6 (.int .u32 (0)) (by omega))
         have hB1 := (((((hB.setCell (p := ⟨w.heap.size, 2, none⟩) (by simp) (.bool true)).setCell (p := ⟨w.heap.size, 3, none⟩) (by simp) (.bool b1)).setCell (p := ⟨w.heap.size, 4, none⟩) (by simp) (.bool b2)).setCell (p := ⟨w.heap.size, 5, none⟩) (by simp) (.int .u32 (x / 256 % 256))).setCell (p := ⟨w.heap.size, 6, none⟩) (by simp) (.int .u32 (0)))
         clear X Y hB c0 c1 c2 c3 c4 c5 c6 f1 f2 f3 f4 f5 f6
         have X := X1
         have Y := Y1
         have hB := hB1
         clear X1 Y1 hB1
         generalize (((((W1.setCell ⟨w.heap.size, 2, none⟩ (.bool true)).setCell ⟨w.heap.size, 3, none⟩ (.bool b1)).setCell ⟨w.heap.size, 4, none⟩ (.bool b2)).setCell ⟨w.heap.size, 5, none⟩ (.int .u32 (x / 256 % 256))).setCell ⟨w.heap.size, 6, none⟩ (.int .u32 (0))) = W2 at *
         have Z := cX.row Y ⟨ld, v, true, b1, b2, x / 256 % 256, 0, st⟩
         have hB2 := aB hB (rl ⟨ld, v, true, b1, b2, x / 256 % 256, 0, st⟩).toArray (g := w.heap.size + 1) (by omega)
         go_wp2_with (first | (refine eE rfl (.tmp 3) rfl rfl X ?_) | (refine fE rfl (.tmp 6) (.tmp 66) rfl rfl (t := ⟨ld, v, true, b1, b2, x / 256 % 256, 0, st⟩) rfl Y ?_))
         exact iX
   . rw [show fR 12 = 0 from rfl] at hLd
     obtain ⟨b0, hb0⟩ : ∃ b, (x % 2 == 1) = b := ⟨_, rfl⟩
     have d0 : aO x 0 = b0 := by rw [<- hb0]; unfold aO; rw [show (2 : Int) ^ 0 = 1 from rfl, Int.ediv_one]; rfl
     have HO : Hid (t.sto 12 x = { t with st := t.st && !b0 }) := Hd (by rw [show t.sto 12 x = { t with st := t.st && !aO x 0 } from rfl, d0])
     obtain ⟨l0, l1, v0, v1, s0, s1, p0, p1⟩ := h
     rw [if_pos (by rfl), HO.out]
     clear d0 HO he
     obtain ⟨V, hV⟩ : ∃ V, t.val 12 = V := ⟨_, rfl⟩
     rw [hV] at hLd
     clear hV
     obtain ⟨ld, v, en, re, iq, sc, ph, st⟩ := t
     simp only at l0 l1 v0 v1 s0 s1 p0 p1 ⊢
     cases b0
     . simp only [Bool.not_false, Bool.and_true]
       go_enter func195, ntmps195
       go_upto_region 1 with (fail)
       rw [show Obj.cells (rl ⟨ld, v, en, re, iq, sc, ph, st⟩).toArray 220 (0, 0) = oM ⟨ld, v, en, re, iq, sc, ph, st⟩ from rfl, lJ]
       generalize ((w.alloc (oM ⟨ld, v, en, re, iq, sc, ph, st⟩)).alloc zM) = W at *
       go_wp2_with (refine eE rfl (.tmp 3) rfl rfl X ?_)
       refine (hLd.out _).mono ?_
       rintro e W1 ⟨rfl, hb⟩
       have X1 := X.below hb
       have Y1 := Y.below hb
       have hB1 := tr hB hb
       clear X Y hB hb hLd
       have X := X1
       have Y := Y1
       have hB := hB1
       clear X1 Y1 hB1
       have Z := cX.row Y ⟨ld, v, en, re, iq, sc, ph, st⟩
       have hB2 := aB hB (rl ⟨ld, v, en, re, iq, sc, ph, st⟩).toArray (g := w.heap.size + 1) (by omega)
       go_wp2_with (first | (refine eE rfl (.tmp 3) rfl rfl X ?_) | (refine fE rfl (.tmp 6) (.tmp 66) rfl rfl (t := ⟨ld, v, en, re, iq, sc, ph, st⟩) rfl Y ?_))
       exact iX
     . simp only [Bool.not_true, Bool.and_false]
       go_enter func195, ntmps195
       go_upto_region 1 with (fail)
       rw [show Obj.cells (rl ⟨ld, v, en, re, iq, sc, ph, st⟩).toArray 220 (0, 0) = oM ⟨ld, v, en, re, iq, sc, ph, st⟩ from rfl, lJ]
       generalize ((w.alloc (oM ⟨ld, v, en, re, iq, sc, ph, st⟩)).alloc zM) = W at *
       go_wp2_with (refine eE rfl (.tmp 3) rfl rfl X ?_)
       refine (hLd.out _).mono ?_
       rintro e W1 ⟨rfl, hb⟩
       have X1 := X.below hb
       have Y1 := Y.below hb
       have hB1 := tr hB hb
       clear X Y hB hb hLd
       have X := X1
       have Y := Y1
       have hB := hB1
       clear X1 Y1 hB1
       have c7 := X.c7
       have f7 := X.free 7
       go_upto_region 17 with (fail)
       have X1 : cX _ _ ⟨ld, v, en, re, iq, sc, ph, false⟩ := (X.s7 (false))
       have Y1 := (Y.other w.heap.size 7 (.bool false) (by omega))
       have hB1 := (hB.setCell (p := ⟨w.heap.size, 7, none⟩) (by simp) (.bool false))
       clear X Y hB c7 f7
       have X := X1
       have Y := Y1
       have hB := hB1
       clear X1 Y1 hB1
       generalize (W1.setCell ⟨w.heap.size, 7, none⟩ (.bool false)) = W2 at *
       have Z := cX.row Y ⟨ld, v, en, re, iq, sc, ph, false⟩
       have hB2 := aB hB (rl ⟨ld, v, en, re, iq, sc, ph, false⟩).toArray (g := w.heap.size + 1) (by omega)
       go_wp2_with (first | (refine eE rfl (.tmp 3) rfl rfl X ?_) | (refine fE rfl (.tmp 6) (.tmp 66) rfl rfl (t := ⟨ld, v, en, re, iq, sc, ph, false⟩) rfl Y ?_))
       exact iX
 . have hs : fV o = fR o := by unfold fV; rw [if_neg he]
   rw [hs, if_neg he]
   clear hs
   obtain ⟨E, hE⟩ : ∃ E, fR o = E := ⟨_, rfl⟩
   obtain ⟨V, hV⟩ : ∃ V, t.val o = V := ⟨_, rfl⟩
   rw [hE, hV] at hLd
   rw [hE] at he ⊢
   have hn : (E == 0) = false := by simpa using he
   have hn2 : (E != 0) = true := by simpa using he
   clear hE hV he
   go_enter func195, ntmps195
   go_upto_region 1 with (fail)
   rw [show Obj.cells (rl t).toArray 220 (0, 0) = oM t from rfl, lJ]
   generalize ((w.alloc (oM t)).alloc zM) = W at *
   go_wp2_with (refine eE rfl (.tmp 3) rfl rfl X ?_)
   refine (hLd.out _).mono ?_
   rintro e W1 ⟨rfl, hb⟩
   have X1 := X.below hb
   have Y1 := Y.below hb
   have hB1 := tr hB hb
   clear X Y hB hb hLd
   have X := X1
   have Y := Y1
   have hB := hB1
   clear X1 Y1 hB1
   have Z := cX.row Y t
   have hB2 := aB hB (rl t).toArray (g := w.heap.size + 1) (by omega)
   go_wp2_with (first | (refine eE rfl (.tmp 3) rfl rfl X ?_) | (refine fE rfl (.tmp 6) (.tmp 18) rfl rfl (t := t) rfl Y ?_))
   exact iX
theorem Tm.exp_left2 {t : Tm} (he : t.exp.en = true) (o : t.ok) : t.exp.left = t.exp.ld * (t.exp.sc + 1) := by
 have h := Tm.exp_left he o.l0
 have e1 : t.exp.ld = t.ld := by unfold Tm.exp; split <;> rfl
 have e2 : t.exp.sc = t.sc := by unfold Tm.exp; split <;> rfl
 rw [e1, e2]; exact h.1
theorem aL5 (s : Tm) (m V F : Int) (hV : s.v - (s.ph + m) / (s.sc + 1) = V) (hF : (s.ph + m) % (s.sc + 1) = F) : ({ s with v := V, ph := F } : Tm) = s.lat m := by
 subst hV hF; rfl
theorem aOT (t : Tm) (n : Int) (w : World) (h : t.ok) (n0 : 0 <= n) (n1 : n < 18446744073709551616) :
 Calls prog 138 #[.agg (rl t).toArray, .int .u64 n] w fun e w' => e = .returned (.agg (rl (t.tick n)).toArray) /\ Below w.heap.size w w' := by
 obtain ⟨R, hR⟩ : ∃ R, t.tick n = R := ⟨_, rfl⟩
 rw [hR]
 have HR := Hd hR
 clear hR
 have hB := aE (aE (aH w) (oM t)) zM
 have X : cX ((w.alloc (oM t)).alloc zM) w.heap.size t := bM w (oM t) zM
 have Y : cX ((w.alloc (oM t)).alloc zM) (w.heap.size + 1) tz := bU w (oM t) zM
 go_enter func138, ntmps138
 go_upto_region 1 with (fail)
 rw [show Obj.cells (rl t).toArray 220 (0, 0) = oM t from rfl, lJ]
 generalize ((w.alloc (oM t)).alloc zM) = W at *
 go_loopw [1] (fun x wr => ∃ (m : Int) (s : Tm), x = .int .u64 m /\ 0 <= m /\ m < 18446744073709551616 /\ s.ok /\ cX wr w.heap.size s /\ cX wr (w.heap.size + 1) tz /\ Below w.heap.size w wr /\ Hid (s.tick m = R)) (fun x wr => (intOf x).toNat)
 case atStart => exact ⟨n, t, rfl, n0, n1, h, X, Y, hB, HR⟩
 case round =>
  clear X Y hB h HR n0 n1
  obtain ⟨m, s, rfl, m0, m1, h, X, Y, hB, HR⟩ := hrel
  have hL := h.left
  have x2 := X.c2
  by_cases hm : m = 0
  . subst hm
    have hs : s = R := by rw [<- HR.out, Tm.tick_zero h]
    have Z := cX.row Y s
    have hB2 := aB hB (rl s).toArray (g := w.heap.size + 1) (by omega)
    cases hen : s.en
    all_goals
     rw [hen] at x2
     go_wp2_with (first | (refine eE rfl (.tmp 2) rfl rfl X ?_) | (refine fE rfl (.tmp 4) (.tmp 48) rfl rfl (t := s) rfl Y ?_))
     refine bodyPost_ret (aBX rfl _ _ rfl Z) rfl ⟨by rw [hs], hB2⟩
  . have hm2 : 0 < m := by omega
    have hm3 : (m == 0) = false := by simpa using hm
    clear hm
    cases hen : s.en
    . rw [hen] at x2
      have hs : s = R := by rw [<- HR.out, Tm.tick_off hen]
      have Z := cX.row Y s
      have hB2 := aB hB (rl s).toArray (g := w.heap.size + 1) (by omega)
      clear HR
      go_wp2_with (first | (refine eE rfl (.tmp 2) rfl rfl X ?_) | (refine fE rfl (.tmp 4) (.tmp 48) rfl rfl (t := s) rfl Y ?_))
      refine bodyPost_ret (aBX rfl _ _ rfl Z) rfl ⟨by rw [hs], hB2⟩
    . rw [hen] at x2
      have LF : Hid (∀ w, Calls prog 197 #[.agg (rl s).toArray] w fun e w' => e = .returned (.int .u64 s.left) /\ Below w.heap.size w w') :=
       Hd (fun w => by have := aGg s w h; unfold Tm.lef at this; rw [if_pos hen] at this; exact this)
      go_wp2_with (refine aMA (.tmp 2) rfl rfl rfl X ?_)
      refine (LF.out _).mono ?_
      rintro e W1 ⟨rfl, hb⟩
      have X1 := X.below hb
      have Y1 := Y.below hb
      have hB1 := tr hB hb
      clear X Y hB hb x2
      by_cases hle : s.left <= m
      . have HE := Hd (show s.exp.tick (m - s.left) = R by rw [<- Tm.tick_ge h hen hle]; exact HR.out)
        clear HR
        go_wp2_with (refine eE rfl (.tmp 2) rfl rfl X1 ?_)
        refine (LF.out _).mono ?_
        rintro e W2 ⟨rfl, hb⟩
        have X := X1.below hb
        have Y := Y1.below hb
        have hB := tr hB1 hb
        clear X1 Y1 hB1 hb LF
        have x1 := X.c1
        have x5 := X.c5
        have x6 := X.c6
        have f1 := X.free 1
        have f6 := X.free 6
        go_upto_region 4 with (fail)
        have X1 : cX _ _ { s with v := 1, ph := s.sc } := (X.s6 s.sc).s1 1
        have Y1 := (Y.other w.heap.size 6 (.int .u32 s.sc) (by omega)).other w.heap.size 1 (.int .u32 1) (by omega)
        have hB1 := (hB.setCell (p := ⟨w.heap.size, 6, none⟩) (by simp) (.int .u32 s.sc)).setCell (p := ⟨w.heap.size, 1, none⟩) (by simp) (.int .u32 1)
        clear X Y hB x1 x5 x6 f1 f6
        generalize ((W2.setCell ⟨w.heap.size, 6, none⟩ (.int .u32 s.sc)).setCell ⟨w.heap.size, 1, none⟩ (.int .u32 1)) = W3 at *
        have ho : ({ s with v := 1, ph := s.sc } : Tm).ok := ⟨h.l0, h.l1, by show (0 : Int) <= 1; omega, by show (1 : Int) < 4294967296; omega, h.s0, h.s1, h.s0, Int.le_refl _⟩
        have ON := Hd (fun w => by have := aPt { s with v := 1, ph := s.sc } w ho; rw [Tm.one_exp hen] at this; exact this)
        have hEo := Tm.exp_ok h
        have hEL := hEo.left
        have HX : Hid (s.exp.en = true -> s.exp.left = s.exp.ld * (s.exp.sc + 1)) := Hd fun he => Tm.exp_left2 he h
        have HM : Hid (s.exp.en = true -> s.exp.exp = s.exp) := Hd fun he => (Tm.exp_again he hen).1
        clear h ho
        generalize ({ s with v := 1, ph := s.sc } : Tm) = s1 at *
        generalize s.exp = E at *
        go_wp2_with (refine eE rfl (.tmp 2) rfl rfl X1 ?_)
        refine (ON.out _).mono ?_
        rintro e W4 ⟨rfl, hb⟩
        have X2 := X1.below hb
        have Y2 := Y1.below hb
        have hB2 := tr hB1 hb
        clear X1 Y1 hB1 hb ON
        have X := cX.row X2 E
        have Y := Y2.elseRow w.heap.size (rl E).toArray (by omega)
        have hB := aB hB2 (rl E).toArray (Nat.le_refl w.heap.size)
        go_upto_region 5 with (refine fE rfl (.tmp 2) (.tmp 28) rfl rfl rfl X2 ?_)
        clear X2 Y2 hB2
        generalize W4.setRow w.heap.size (rl E).toArray = W5 at *
        have x0 := X.c0
        have x2 := X.c2
        have x5 := X.c5
        cases hE : E.en
        . rw [hE] at x2
          go_wp2_with fail
          go_roundw
          case rel => exact ⟨m - s.left, E, rfl, by omega, by omega, hEo, X, Y, hB, HE⟩
          case measure => simp [intOf]; omega
        . rw [hE] at x2
          have hx := HX.out hE
          have hm := fU (a := m - s.left) (u := E.left) (by omega)
          have hm4 : (m - s.left) % E.left <= m - s.left := by
           by_cases c : m - s.left < E.left
           . rw [Int.emod_eq_of_lt (by omega) c]; omega
           . omega
          have HE2 := Hd (show E.tick ((m - s.left) % E.left) = R by rw [<- HE.out]; exact (Tm.tick_mod hEo hE (HM.out hE) _ (by omega)).symm)
          rw [hx] at hm hm4 HE2 hEL
          obtain ⟨l0, l1, v0, v1, s0, s1, p0, p1⟩ := hEo
          have hq : (E.ld * (E.sc + 1) == 0) = false := by simp only [beq_eq_false_iff_ne, ne_eq]; omega
          clear HX HM HE hx
          go_wp2_with fail
          go_roundw
          case rel => exact ⟨(m - s.left) % (E.ld * (E.sc + 1)), E, rfl, hm.1, by omega, ⟨l0, l1, v0, v1, s0, s1, p0, p1⟩, X, Y, hB, HE2⟩
          case measure => simp [intOf]; omega
      . have hst := lZ h.v0 h.s0 h.p0 m0 (show m < lft s.v s.sc s.ph by show m < s.left; omega)
        have hmb := fU (a := s.ph + m) (u := s.sc + 1) (by have := h.s0; omega)
        have HV := HR.out
        rw [Tm.tick_lt hen (by omega)] at HV
        have X := X1
        have Y := Y1
        have hB := hB1
        clear X1 Y1 hB1 HR LF
        have hX := X.lt
        have x1 := X.c1
        have x2 := X.c2
        rw [hen] at x2
        have x5 := X.c5
        have x6 := X.c6
        have f1 := X.free 1
        obtain ⟨l0, l1, v0, v1, s0, s1, p0, p1⟩ := h
        obtain ⟨q0, q1, q2⟩ := hst
        obtain ⟨V, hV⟩ : ∃ V, s.v - (s.ph + m) / (s.sc + 1) = V := ⟨_, rfl⟩
        obtain ⟨F, hF⟩ : ∃ F, (s.ph + m) % (s.sc + 1) = F := ⟨_, rfl⟩
        have HR := Hd (show ({ s with v := V, ph := F } : Tm) = R by rw [<- HV]; exact aL5 s m V F hV hF)
        clear HV
        have hmm : m < 1099511627776 := by omega
        go_upto_region 11 with (fail)
        have hg := bC
        have hf := dE
        refine aM 8 (by kernel_rfl) (by kernel_rfl) ?_
        simp only [List.take_succ_cons, List.take_zero, List.drop_succ_cons, List.drop_zero]
        repeat (go_big_quiet_step (fail))
        refine wpQuiet_nil ?_
        intro _ hw'
        obtain ⟨⟨dq, osq⟩, hw''⟩ := hw'
        subst hw''
        go_upto_region 12 with (fail)
        have hbr := below_regrown W1 dq osq
        have X1 : cX _ _ { s with v := V } := (X.below hbr).s1 V
        have Y1 := (Y.below hbr).other w.heap.size 1 (.int .u32 V) (by omega)
        have hB1 := (tr hB hbr).setCell (p := ⟨w.heap.size, 1, none⟩) (by simp) (.int .u32 V)
        clear X Y hB x1 x2 x5 x6 f1 hg hf hbr hX
        generalize ((grow (redrawn W1 dq) osq).setCell ⟨w.heap.size, 1, none⟩ (.int .u32 V)) = W2 at *
        have x6 := X1.c6
        have f6 := X1.free 6
        simp only at x6
        clear hV q0 q1 q2
        go_upto_region 13 with (fail)
        have X2 : cX _ _ { s with v := V, ph := F } := X1.s6 F
        have Y2 := Y1.other w.heap.size 6 (.int .u32 F) (by omega)
        have hB2 := hB1.setCell (p := ⟨w.heap.size, 6, none⟩) (by simp) (.int .u32 F)
        clear X1 Y1 hB1 x6 f6 hF
        generalize (W2.setCell ⟨w.heap.size, 6, none⟩ (.int .u32 F)) = W3 at *
        generalize ({ s with v := V, ph := F } : Tm) = r at *
        have Z := cX.row Y2 r
        have hB3 := aB hB2 (rl r).toArray (g := w.heap.size + 1) (by omega)
        go_wp2_with (first | (refine eE rfl (.tmp 2) rfl rfl X2 ?_) | (refine fE rfl (.tmp 4) (.tmp 71) rfl rfl (t := r) rfl Y2 ?_))
        refine bodyPost_ret (aBX rfl _ _ rfl Z) rfl ⟨by rw [HR.out], hB3⟩
theorem aKJ {w : World} {g n cap : Nat} {t : Nat -> Tm} (h : eD w g n cap t) (ok : ∀ i, i < n -> (t i).ok) (n8 : n <= 8) (o : Int) (o0 : 0 <= o) (o1 : o < 4294967296) :
 Calls prog 129 #[.slice (some ⟨g, 0, none⟩) n cap, .int .u32 o] w fun e w' => e = .returned (.tuple #[.int .u32 (zY n t o), .int .i64 (jP n o)]) /\ Below w.heap.size w w' := by
 have hcm := h.cm
 have hnc := h.nc
 unfold maxLen at hcm
 unfold zY jP
 by_cases hE : jT n o = 0
 . rw [if_pos hE, if_pos hE]
   obtain ⟨h4, hn, hk⟩ := lC o0 hE
   have hin := h.at hk
   have C := Hd (fun w => aGh (t (o / 32).toNat) (o % 32) w (ok _ hk) (by omega) (by omega))
   clear hE h ok
   generalize (t (o / 32).toNat).val (o % 32) = V at *
   generalize fR (o % 32) = E at *
   go_enter func129, ntmps129
   go_wp2_with (refine aDg rfl (.tmp 19) rfl rfl hin ?_)
   refine (C.out _).mono ?_
   exact qW
 . rw [if_neg hE, if_neg hE]
   clear h ok
   unfold jT at hE ⊢
   cases h4 : (o % 4 != 0)
   . rw [h4, if_neg (by simp)] at hE
     by_cases hn : (n : Int) <= o / 32
     . clear hE
       go_enter func129, ntmps129
       go_wp2_with fail
       go_ret2
       exact ⟨by simp [hn], aH w⟩
     . rw [if_neg hn] at hE
       exact absurd rfl hE
   . clear hE
     go_enter func129, ntmps129
     go_wp2_with fail
     go_ret2
     exact ⟨rfl, aH w⟩
theorem aBA (n : Nat) (o : Int) : jP n o = 0 -> jT n o = 0 /\ fR (o % 32) = 0 := by
 unfold jP
 intro h
 by_cases hE : jT n o = 0
 . rw [if_pos hE] at h; exact ⟨hE, h⟩
 . rw [if_neg hE] at h; exact absurd h hE
theorem aGB (n : Nat) (o : Int) (h : jP n o ≠ 0) : mE n o = jP n o := by
 unfold jP at h ⊢
 unfold mE
 by_cases hE : jT n o = 0
 . rw [if_pos hE] at h
   rw [if_pos hE, if_pos hE]
   unfold fV
   rw [if_neg h]
 . rw [if_neg hE, if_neg hE]
theorem aE0 (t : Nat -> Tm) (k : Nat) (c : Prop) [Decidable c] (x : Tm) (i : Nat) : oO t k (if c then x else t k) i = (if c then oO t k x else t) i := by
 by_cases hs : c
 . rw [if_pos hs, if_pos hs]
 . rw [if_neg hs, if_neg hs]
   by_cases e : i = k
   . subst e; exact oH _ _ _
   . exact oI _ _ e
theorem aLo {w : World} {g n cap : Nat} {t : Nat -> Tm} (h : eD w g n cap t) (ok : ∀ i, i < n -> (t i).ok) (n0 : 1 <= n) (n8 : n <= 8) (o x : Int) (o0 : 0 <= o) (o1 : o < 4294967296) (x0 : 0 <= x) (x1 : x < 4294967296) :
 Calls prog 123 #[.slice (some ⟨g, 0, none⟩) n cap, .int .u32 o, .int .u32 x] w fun e w' => ∃ g' cap', e = .returned (.tuple #[.slice (some ⟨g', 0, none⟩) n cap', .int .i64 (mE n o)]) /\ eD w' g' n cap' (kL n t o x) /\ Below w.heap.size w w' /\ (g' = g \/ w.heap.size <= g') := by
 have hcm := h.cm
 have hnc := h.nc
 unfold maxLen at hcm
 have L := aKJ h ok n8 o o0 o1
 by_cases hE : jP n o = 0
 . obtain ⟨hk0, hn0⟩ := aBA n o hE
   obtain ⟨h4, hn, hk⟩ := lC o0 hk0
   rw [hE] at L
   have hS : mE n o = fV (o % 32) := by unfold mE; rw [if_pos hk0]
   unfold kL
   rw [hS]
   have C := Hd (fun w => aMC (t (o / 32).toNat) (o % 32) x w (ok _ hk) (by omega) (by omega) x0 x1)
   generalize zY n t o = V0 at *
   have HW := Hd h
   have OK := Hd ok
   have hcg : ∀ i, i < n -> oO t (o / 32).toNat (if fV (o % 32) = 0 then (t (o / 32).toNat).sto (o % 32) x else t (o / 32).toNat) i = (if fV (o % 32) = 0 then oO t (o / 32).toNat ((t (o / 32).toNat).sto (o % 32) x) else t) i := fun i _ => aE0 t _ _ _ i
   have HC := Hd hcg
   clear hE hk0 hn0 h4 hS h ok hcg
   generalize (if fV (o % 32) = 0 then (t (o / 32).toNat).sto (o % 32) x else t (o / 32).toNat) = s at *
   generalize (if fV (o % 32) = 0 then oO t (o / 32).toNat ((t (o / 32).toNat).sto (o % 32) x) else t) = T at *
   generalize fV (o % 32) = E at *
   go_enter func123, ntmps123
   go_wp2_with fail
   refine L.mono ?_
   rintro e w1 ⟨rfl, hb⟩
   have H := HW.out.below hb
   have hin := H.at hk
   have hB := hb
   clear HW hb L
   go_wp2_with (refine aDg rfl (.tmp 26) rfl rfl hin ?_)
   refine (C.out _).mono ?_
   rintro e w2 ⟨rfl, hb⟩
   have H2 := H.below hb
   have B2 := tr hB hb
   clear C H hB hb hin
   have Z : cX (w2.alloc zM) w2.heap.size tz := aD w2 zM
   have B3 := aB (aE B2 zM) (rl s).toArray B2.size
   have H3 := H2.below (aB (aE (aH w2) zM) (rl s).toArray (Nat.le_refl _))
   have Y := cX.row Z s
   have hsz : w.heap.size <= w2.heap.size := B2.size
   clear H2
   go_upto_region 5 with (refine fE rfl (.tmp 10) (.tmp 32) rfl rfl rfl Z ?_)
   rw [lJ]
   clear Z B2
   generalize ((w2.alloc zM).setRow w2.heap.size (rl s).toArray) = W at *
   generalize w2.heap.size = y at *
   have OO := World.ownsRow_made (base := w.heap.size) (e := 220) (size := 8) W #[] 0 B3.size (by decide) rfl
   have H4 := H3.below (aE (aH W) (.cells #[] 220 (0, 0)))
   have Y4 := Y.below (aE (aH W) (.cells #[] 220 (0, 0)))
   have B4 := aE B3 (.cells #[] 220 (0, 0))
   have hWs := B3.size
   have hyW := Y.lt
   have hB4s := B4.size
   clear H3 Y B3
   go_upto_region 6 with (refine aB8 rfl (.tmp 34) (.tmp 35) rfl (v := .slice (some ⟨W.heap.size, 0, none⟩) 0 0) rfl OO rfl H4 n8 hB4s ?_; intro v' W5 O5 ho5)
   have ho6 : aF (· = W.heap.size) (W.alloc (.cells #[] 220 (0, 0))) W5 := ho5.mono fun k _ e => (Option.some.inj e).symm
   have Y5 := Y4.off ho6 (fun e => by omega)
   have B5 := aF.toBelow B4 ho6 (fun b hb e => by omega) (Nat.le_refl _)
   obtain ⟨g', cap', rfl, hg', R5⟩ := O5.rw (by omega)
   have hcm' := R5.cm
   have hnc' := R5.nc
   unfold maxLen at hcm'
   clear OO H4 Y4 B4 hWs hyW hB4s ho5 ho6 O5
   go_upto_region 7 with (first
    | (refine eE rfl (.tmp 10) rfl rfl Y5 ?_)
    | (refine aM5 rfl (.tmp 41) (.tmp 40) rfl rfl rfl R5 hk ?_; intro W6 R6 ho6))
   have B6 := aF.toBelow B5 ho6 (fun b hb e => by omega) (Nat.le_refl _)
   have R7 := R6.congr HC.out
   clear R5 Y5 B5 ho6 R6
   go_wp2_with fail
   go_ret2
   exact ⟨g', cap', rfl, R7, B6, .inr hg'⟩
 . have hS := aGB n o hE
   have hT : kL n t o x = t := by unfold kL; rw [hS, if_neg hE]
   rw [hS, hT]
   have hne : (jP n o == 0) = false := by simpa using hE
   have hn2 : (jP n o != 0) = true := by simpa using hE
   generalize jP n o = E at *
   generalize zY n t o = V0 at *
   have H := Hd h
   clear h hE ok hS hT
   go_enter func123, ntmps123
   go_wp2_with fail
   refine L.mono ?_
   rintro e w1 ⟨rfl, hb⟩
   go_wp2_with fail
   go_ret2
   exact ⟨g, cap, rfl, H.out.below hb, hb, .inl rfl⟩
def zR (n : Nat) : Obj := .cells (madeCells (Value.agg (rl tz).toArray).cells (n * 8)) tM (0, 0)
theorem aKP (n : Nat) (n8 : n <= 8) (w : World) : (Instr.makeSlice 30 (.int .i64 n) (.int .i64 n)).run prog w = .ok (.slice (some ⟨w.heap.size, 0, none⟩) n n) (w.alloc (zR n)) := by
 obtain ⟨i0, hi, hz0, hz1, hz2⟩ := info_parts aDX
 have hr := run_make (P := prog) w 30 220 i0 _ underlying30 hi hz0 .i64 .i64 n n (by omega) (Int.le_refl _) (by rw [hz2]; omega) (by omega)
 rw [hz1] at hr
 simpa [zR] using hr
theorem aAR (n : Nat) (n8 : n <= 8) (w : World) : eD (w.alloc (zR n)) w.heap.size n n (fun _ => tz) := by
 refine ⟨⟨_, aD w (zR n), by rw [size_madeCells], fun i hi j u hu => ?_⟩, Nat.le_refl _, by unfold maxLen; omega⟩
 have hj : j < 8 := by have := (List.getElem?_eq_some_iff.1 hu).1; rw [kR] at this; exact this
 have hlt : i * 8 + j < n * 8 := by omega
 have hc : (Value.agg (rl tz).toArray).cells = (rl tz).toArray := rfl
 have hs : (rl tz).toArray.size = 8 := rfl
 unfold madeCells
 rw [hc, hs]
 simp only [Array.getElem?_map]
 rw [show (Array.range (n * 8))[i * 8 + j]? = some (i * 8 + j) by simp [hlt]]
 simp only [Option.map_some]
 rw [show (i * 8 + j) % 8 = j by omega]
 have h2 : (rl tz).toArray[j]? = some u := by simpa using hu
 simp [getElem!_def, h2]
end Go.Proofs.YtaohacadochldaaGreat.B
