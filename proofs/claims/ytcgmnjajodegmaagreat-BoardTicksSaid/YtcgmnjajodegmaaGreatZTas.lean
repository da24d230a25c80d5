/- Several texts in one: The document's New and Latch of layer 9. (This text is written by tools/gen_sref2.py.) The document's Tick of a row of timers. -/
import Derived.Test.YtcgmnjajodegmaaGreatZTan
import Derived.Test.YtcgmnjajodegmaaGreatZTao
import Derived.Test.YtcgmnjajodegmaaGreatZTar
import Derived.Deep.Cut
set_option linter.unusedVariables false
set_option linter.unusedSimpArgs false
namespace Go.Proofs.YtcgmnjajodegmaaGreat.B
open Go.ChangeShapes Go.WideShapes Go.RowKit Go.Sort
theorem build_R9 (f : Nat -> Bool) (w : World) : (Instr.build 42 #[(0, .agg (bl f 32).toArray), (1, .int .i64 1)]).run Tryz.prog w = .ok (.agg (sl f 1 0 false).toArray) w := by kernel_rfl
theorem wp_buildR9 {ops : Array Oper} {rest : List Oper} {o : Oper} {a : Act} {w : World} {Q : Exit -> Act -> World -> Prop} (hgd : o.guard = none) (x : Operand) (ho : o.op = .build 42 #[(0, x), (1, .const (.int .i64 1))]) {f : Nat -> Bool} (hx : a.eval x = .agg (bl f 32).toArray)
 (h : wpList Tryz.prog ops Q rest (a.put o.dst (.agg (sl f 1 0 false).toArray)) w) : wpList Tryz.prog ops Q (o :: rest) a w :=
 wpList_plain hgd fun _ hK => by
  have hb := build_R9 f w
  unfold Oper.wp execOp
  have hk : a.eval (.const (.int .i64 1)) = .int .i64 1 := rfl
  simp only [ho, Sem.run_bind, List.map_toArray, List.map_cons, List.map_nil, hx, hk]
  rw [hb]
  exact hK _ _ h
theorem u9New (w : World) : Calls Tryz.prog 40 #[] w fun e w' => e = .returned (.agg (ul rsN).toArray) /\ Below w.heap.size w w' := by
 have X := u_new w (fun _ => false) 0 0 false
 have hb := trA (tr0 w) zU
 go_enter Tryz.func40, Tryz.ntmps40
 go_wp2_with fail
 rw [zU_eq]
 have X : UAt (w.alloc zU) w.heap.size (fun _ => false) 0 0 false := X
 generalize w.alloc zU = W at *
 refine (rBits 1 _ (by omega) (by omega)).mono ?_
 rintro e w1 ⟨rfl, h1⟩
 have X1 := X.below h1
 have hB := tr hb h1
 obtain ⟨f, hf⟩ : ∃ f, bit 1 = f := ⟨_, rfl⟩
 have HF := Hd (show ul rsN = sl f 1 0 false by rw [<- hf]; rfl)
 rw [hf]
 have Z := UAt.row X1 f 1 0 false
 have hZ := below_setRow hB (sl f 1 0 false).toArray (g := w.heap.size) (Nat.le_refl _)
 clear X hb h1 hf
 go_wp2_with (first | (refine wp_buildR9 rfl (.tmp 1) rfl (f := f) rfl ?_) | (refine storeU rfl (.tmp 0) (.tmp 2) rfl rfl (f := f) (la := 1) (ct := 0) (qs := false) rfl X1 ?_))
 exact bodyPost_ret (resU rfl _ _ rfl Z) rfl ⟨by rw [HF.out], hZ⟩
theorem put_bits (t : Rs) (k : Nat) (c : Int) (h : t.ok) (hk : k < 32) (hc : c = ((2 ^ k : Nat) : Int)) (i : Nat) : (if i = k then true else bit t.ca i) = bit (t.put c).ca i := by
 subst hc
 exact (bit_or_pow t.ca k i h.a0 h.a1 hk).symm
set_option maxRecDepth 100000 in
set_option maxHeartbeats 1600000 in
theorem uLatch2 (t : Rs) (w : World) (h : t.ok) : Calls Tryz.prog 152 #[.agg (ul t).toArray, .int .i64 2] w fun e w' => e = .returned (.tuple #[.agg (ul (t.put 2)).toArray, .bool true]) /\ Below w.heap.size w w' := by
 have hB0 := trA (trA (tr0 w) (oU (bit t.ca) t.la t.ct t.qs)) zU
 have X : UAt ((w.alloc (oU (bit t.ca) t.la t.ct t.qs)).alloc zU) w.heap.size (bit t.ca) t.la t.ct t.qs := b2_0 w _ _
 have Y : UAt ((w.alloc (oU (bit t.ca) t.la t.ct t.qs)).alloc zU) (w.heap.size + 1) (fun _ => false) 0 0 false := b2_1 w _ _
 unfold ul
 have n0 := h.c0
 have n1 := h.c1
 have PB := Hd (put_bits t 1 2 h (by omega) rfl)
 obtain ⟨N, hN⟩ : ∃ N, up1 t.ct = N := ⟨_, rfl⟩
 have HP := Hd (show (t.put 2).ct = N from hN)
 obtain ⟨s, hs⟩ : ∃ s, t.put 2 = s := ⟨_, rfl⟩
 rw [hs]
 have HS := Hd hs
 clear hs
 by_cases hm : t.ct < 4294967295
 . have hu : N = t.ct + 1 := by rw [<- hN]; unfold up1; rw [if_pos hm]
   have q : (t.ct != 4294967295) = true := by simp; omega
   subst hu
   clear hN
   go_enter Tryz.func152, Tryz.ntmps152
   go_upto_region 1 with (fail)
   rw [oU_eq, zU_eq]
   generalize (w.alloc (oU (bit t.ca) t.la t.ct t.qs)).alloc zU = W at *
   have hl := X.lt
   have hl2 : w.heap.size < W.heap.size + 1 := by omega
   have hl3 : w.heap.size < W.heap.size + 1 + 1 := by omega
   have hl4 : w.heap.size < W.heap.size + 1 + 1 + 1 := by omega
   have x1 := X.ci 1 (by omega)
   have x2 := X.c32
   have x3 := X.c33
   have x4 := X.c34
   have f1 := X.free 1
   have f2 := X.free 32
   have f3 := X.free 33
   have f4 := X.free 34
   go_wp2_with fail
   refine wp_loop_rounds 5 ?_
   rw [rounds_succ]
   go_upto_region 8 with (fail)
   have X2 := (((((X.si 1 true (by omega)).s32 2).s34 false).s33 (t.ct + 1)).alloc (.cells #[.int .i64 1, .int .i64 2, .int .i64 4, .int .i64 8, .int .i64 16] 3))
   have Y2 := (((((Y.other w.heap.size 1 (.bool true) (by omega)).other w.heap.size 32 (.int .i64 2) (by omega)).other w.heap.size 34 (.bool false) (by omega)).other w.heap.size 33 (.int .u32 (t.ct + 1)) (by omega)).alloc (.cells #[.int .i64 1, .int .i64 2, .int .i64 4, .int .i64 8, .int .i64 16] 3))
   have hB2 := (trA ((((hB0.setCell (p := ⟨w.heap.size, 1, none⟩) (by simp) (.bool true)).setCell (p := ⟨w.heap.size, 32, none⟩) (by simp) (.int .i64 2)).setCell (p := ⟨w.heap.size, 34, none⟩) (by simp) (.bool false)).setCell (p := ⟨w.heap.size, 33, none⟩) (by simp) (.int .u32 (t.ct + 1))) (.cells #[.int .i64 1, .int .i64 2, .int .i64 4, .int .i64 8, .int .i64 16] 3))
   clear X Y hB0 x1 x2 x3 x4 f1 f2 f3 f4 hl hl2 hl3 hl4
   generalize (((((W.setCell ⟨w.heap.size, 1, none⟩ (.bool true)).setCell ⟨w.heap.size, 32, none⟩ (.int .i64 2)).setCell ⟨w.heap.size, 34, none⟩ (.bool false)).setCell ⟨w.heap.size, 33, none⟩ (.int .u32 (t.ct + 1))).alloc (.cells #[.int .i64 1, .int .i64 2, .int .i64 4, .int .i64 8, .int .i64 16] 3)) = W2 at *
   have X3 : UAt W2 w.heap.size (bit s.ca) s.la s.ct s.qs := by
    rw [<- HS.out, HP.out]; exact X2.congr fun i _ => PB.out i
   clear X2 HP PB HS q n0 n1 h hm
   have Y3 := UAt.row Y2 (bit s.ca) s.la s.ct s.qs
   have hB3 := below_setRow hB2 (sl (bit s.ca) s.la s.ct s.qs).toArray (g := w.heap.size + 1) (by omega)
   go_wp2_with (first | (refine loadU rfl (.tmp 2) rfl rfl X3 ?_) | (refine storeU rfl (.tmp 4) (.tmp 30) rfl rfl (f := bit s.ca) (la := s.la) (ct := s.ct) (qs := s.qs) rfl Y2 ?_))
   exact bodyPost_ret (resU2 rfl _ _ _ rfl rfl Y3) rfl ⟨rfl, hB3⟩
 . have hu : N = t.ct := by rw [<- hN]; unfold up1; rw [if_neg hm]
   have q : (t.ct != 4294967295) = false := by simp; omega
   subst hu
   clear hN hm
   go_enter Tryz.func152, Tryz.ntmps152
   go_upto_region 1 with (fail)
   rw [oU_eq, zU_eq]
   generalize (w.alloc (oU (bit t.ca) t.la t.ct t.qs)).alloc zU = W at *
   have hl := X.lt
   have hl2 : w.heap.size < W.heap.size + 1 := by omega
   have hl3 : w.heap.size < W.heap.size + 1 + 1 := by omega
   have hl4 : w.heap.size < W.heap.size + 1 + 1 + 1 := by omega
   have x1 := X.ci 1 (by omega)
   have x2 := X.c32
   have x3 := X.c33
   have x4 := X.c34
   have f1 := X.free 1
   have f2 := X.free 32
   have f3 := X.free 33
   have f4 := X.free 34
   go_wp2_with fail
   refine wp_loop_rounds 5 ?_
   rw [rounds_succ]
   go_upto_region 8 with (fail)
   have X2 := ((((X.si 1 true (by omega)).s32 2).s34 false).alloc (.cells #[.int .i64 1, .int .i64 2, .int .i64 4, .int .i64 8, .int .i64 16] 3))
   have Y2 := ((((Y.other w.heap.size 1 (.bool true) (by omega)).other w.heap.size 32 (.int .i64 2) (by omega)).other w.heap.size 34 (.bool false) (by omega)).alloc (.cells #[.int .i64 1, .int .i64 2, .int .i64 4, .int .i64 8, .int .i64 16] 3))
   have hB2 := (trA (((hB0.setCell (p := ⟨w.heap.size, 1, none⟩) (by simp) (.bool true)).setCell (p := ⟨w.heap.size, 32, none⟩) (by simp) (.int .i64 2)).setCell (p := ⟨w.heap.size, 34, none⟩) (by simp) (.bool false)) (.cells #[.int .i64 1, .int .i64 2, .int .i64 4, .int .i64 8, .int .i64 16] 3))
   clear X Y hB0 x1 x2 x3 x4 f1 f2 f3 f4 hl hl2 hl3 hl4
   generalize ((((W.setCell ⟨w.heap.size, 1, none⟩ (.bool true)).setCell ⟨w.heap.size, 32, none⟩ (.int .i64 2)).setCell ⟨w.heap.size, 34, none⟩ (.bool false)).alloc (.cells #[.int .i64 1, .int .i64 2, .int .i64 4, .int .i64 8, .int .i64 16] 3)) = W2 at *
   have X3 : UAt W2 w.heap.size (bit s.ca) s.la s.ct s.qs := by
    rw [<- HS.out, HP.out]; exact X2.congr fun i _ => PB.out i
   clear X2 HP PB HS q n0 n1 h
   have Y3 := UAt.row Y2 (bit s.ca) s.la s.ct s.qs
   have hB3 := below_setRow hB2 (sl (bit s.ca) s.la s.ct s.qs).toArray (g := w.heap.size + 1) (by omega)
   go_wp2_with (first | (refine loadU rfl (.tmp 2) rfl rfl X3 ?_) | (refine storeU rfl (.tmp 4) (.tmp 30) rfl rfl (f := bit s.ca) (la := s.la) (ct := s.ct) (qs := s.qs) rfl Y2 ?_))
   exact bodyPost_ret (resU2 rfl _ _ _ rfl rfl Y3) rfl ⟨rfl, hB3⟩
set_option maxRecDepth 100000 in
set_option maxHeartbeats 1600000 in
theorem uLatch4 (t : Rs) (w : World) (h : t.ok) : Calls Tryz.prog 152 #[.agg (ul t).toArray, .int .i64 4] w fun e w' => e = .returned (.tuple #[.agg (ul (t.put 4)).toArray, .bool true]) /\ Below w.heap.size w w' := by
 have hB0 := trA (trA (tr0 w) (oU (bit t.ca) t.la t.ct t.qs)) zU
 have X : UAt ((w.alloc (oU (bit t.ca) t.la t.ct t.qs)).alloc zU) w.heap.size (bit t.ca) t.la t.ct t.qs := b2_0 w _ _
 have Y : UAt ((w.alloc (oU (bit t.ca) t.la t.ct t.qs)).alloc zU) (w.heap.size + 1) (fun _ => false) 0 0 false := b2_1 w _ _
 unfold ul
 have n0 := h.c0
 have n1 := h.c1
 have PB := Hd (put_bits t 2 4 h (by omega) rfl)
 obtain ⟨N, hN⟩ : ∃ N, up1 t.ct = N := ⟨_, rfl⟩
 have HP := Hd (show (t.put 4).ct = N from hN)
 obtain ⟨s, hs⟩ : ∃ s, t.put 4 = s := ⟨_, rfl⟩
 rw [hs]
 have HS := Hd hs
 clear hs
 by_cases hm : t.ct < 4294967295
 . have hu : N = t.ct + 1 := by rw [<- hN]; unfold up1; rw [if_pos hm]
   have q : (t.ct != 4294967295) = true := by simp; omega
   subst hu
   clear hN
   go_enter Tryz.func152, Tryz.ntmps152
   go_upto_region 1 with (fail)
   rw [oU_eq, zU_eq]
   generalize (w.alloc (oU (bit t.ca) t.la t.ct t.qs)).alloc zU = W at *
   have hl := X.lt
   have hl2 : w.heap.size < W.heap.size + 1 := by omega
   have hl3 : w.heap.size < W.heap.size + 1 + 1 := by omega
   have hl4 : w.heap.size < W.heap.size + 1 + 1 + 1 := by omega
   have x1 := X.ci 2 (by omega)
   have x2 := X.c32
   have x3 := X.c33
   have x4 := X.c34
   have f1 := X.free 2
   have f2 := X.free 32
   have f3 := X.free 33
   have f4 := X.free 34
   go_wp2_with fail
   refine wp_loop_rounds 5 ?_
   rw [rounds_succ]
   go_wp2_with fail
   rw [rounds_succ]
   go_upto_region 8 with (fail)
   have X2 := ((((((X.si 2 true (by omega)).s32 4).s34 false).s33 (t.ct + 1)).alloc (.cells #[.int .i64 1, .int .i64 2, .int .i64 4, .int .i64 8, .int .i64 16] 3)).alloc (.cells #[.int .i64 1, .int .i64 2, .int .i64 4, .int .i64 8, .int .i64 16] 3))
   have Y2 := ((((((Y.other w.heap.size 2 (.bool true) (by omega)).other w.heap.size 32 (.int .i64 4) (by omega)).other w.heap.size 34 (.bool false) (by omega)).other w.heap.size 33 (.int .u32 (t.ct + 1)) (by omega)).alloc (.cells #[.int .i64 1, .int .i64 2, .int .i64 4, .int .i64 8, .int .i64 16] 3)).alloc (.cells #[.int .i64 1, .int .i64 2, .int .i64 4, .int .i64 8, .int .i64 16] 3))
   have hB2 := (trA (trA ((((hB0.setCell (p := ⟨w.heap.size, 2, none⟩) (by simp) (.bool true)).setCell (p := ⟨w.heap.size, 32, none⟩) (by simp) (.int .i64 4)).setCell (p := ⟨w.heap.size, 34, none⟩) (by simp) (.bool false)).setCell (p := ⟨w.heap.size, 33, none⟩) (by simp) (.int .u32 (t.ct + 1))) (.cells #[.int .i64 1, .int .i64 2, .int .i64 4, .int .i64 8, .int .i64 16] 3)) (.cells #[.int .i64 1, .int .i64 2, .int .i64 4, .int .i64 8, .int .i64 16] 3))
   clear X Y hB0 x1 x2 x3 x4 f1 f2 f3 f4 hl hl2 hl3 hl4
   generalize ((((((W.setCell ⟨w.heap.size, 2, none⟩ (.bool true)).setCell ⟨w.heap.size, 32, none⟩ (.int .i64 4)).setCell ⟨w.heap.size, 34, none⟩ (.bool false)).setCell ⟨w.heap.size, 33, none⟩ (.int .u32 (t.ct + 1))).alloc (.cells #[.int .i64 1, .int .i64 2, .int .i64 4, .int .i64 8, .int .i64 16] 3)).alloc (.cells #[.int .i64 1, .int .i64 2, .int .i64 4, .int .i64 8, .int .i64 16] 3)) = W2 at *
   have X3 : UAt W2 w.heap.size (bit s.ca) s.la s.ct s.qs := by
    rw [<- HS.out, HP.out]; exact X2.congr fun i _ => PB.out i
   clear X2 HP PB HS q n0 n1 h hm
   have Y3 := UAt.row Y2 (bit s.ca) s.la s.ct s.qs
   have hB3 := below_setRow hB2 (sl (bit s.ca) s.la s.ct s.qs).toArray (g := w.heap.size + 1) (by omega)
   go_wp2_with (first | (refine loadU rfl (.tmp 2) rfl rfl X3 ?_) | (refine storeU rfl (.tmp 4) (.tmp 30) rfl rfl (f := bit s.ca) (la := s.la) (ct := s.ct) (qs := s.qs) rfl Y2 ?_))
   exact bodyPost_ret (resU2 rfl _ _ _ rfl rfl Y3) rfl ⟨rfl, hB3⟩
 . have hu : N = t.ct := by rw [<- hN]; unfold up1; rw [if_neg hm]
   have q : (t.ct != 4294967295) = false := by simp; omega
   subst hu
   clear hN hm
   go_enter Tryz.func152, Tryz.ntmps152
   go_upto_region 1 with (fail)
   rw [oU_eq, zU_eq]
   generalize (w.alloc (oU (bit t.ca) t.la t.ct t.qs)).alloc zU = W at *
   have hl := X.lt
   have hl2 : w.heap.size < W.heap.size + 1 := by omega
   have hl3 : w.heap.size < W.heap.size + 1 + 1 := by omega
   have hl4 : w.heap.size < W.heap.size + 1 + 1 + 1 := by omega
   have x1 := X.ci 2 (by omega)
   have x2 := X.c32
   have x3 := X.c33
   have x4 := X.c34
   have f1 := X.free 2
   have f2 := X.free 32
   have f3 := X.free 33
   have f4 := X.free 34
   go_wp2_with fail
   refine wp_loop_rounds 5 ?_
   rw [rounds_succ]
   go_wp2_with fail
   rw [rounds_succ]
   go_upto_region 8 with (fail)
   have X2 := (((((X.si 2 true (by omega)).s32 4).s34 false).alloc (.cells #[.int .i64 1, .int .i64 2, .int .i64 4, .int .i64 8, .int .i64 16] 3)).alloc (.cells #[.int .i64 1, .int .i64 2, .int .i64 4, .int .i64 8, .int .i64 16] 3))
   have Y2 := (((((Y.other w.heap.size 2 (.bool true) (by omega)).other w.heap.size 32 (.int .i64 4) (by omega)).other w.heap.size 34 (.bool false) (by omega)).alloc (.cells #[.int .i64 1, .int .i64 2, .int .i64 4, .int .i64 8, .int .i64 16] 3)).alloc (.cells #[.int .i64 1, .int .i64 2, .int .i64 4, .int .i64 8, .int .i64 16] 3))
   have hB2 := (trA (trA (((hB0.setCell (p := ⟨w.heap.size, 2, none⟩) (by simp) (.bool true)).setCell (p := ⟨w.heap.size, 32, none⟩) (by simp) (.int .i64 4)).setCell (p := ⟨w.heap.size, 34, none⟩) (by simp) (.bool false)) (.cells #[.int .i64 1, .int .i64 2, .int .i64 4, .int .i64 8, .int .i64 16] 3)) (.cells #[.int .i64 1, .int .i64 2, .int .i64 4, .int .i64 8, .int .i64 16] 3))
   clear X Y hB0 x1 x2 x3 x4 f1 f2 f3 f4 hl hl2 hl3 hl4
   generalize (((((W.setCell ⟨w.heap.size, 2, none⟩ (.bool true)).setCell ⟨w.heap.size, 32, none⟩ (.int .i64 4)).setCell ⟨w.heap.size, 34, none⟩ (.bool false)).alloc (.cells #[.int .i64 1, .int .i64 2, .int .i64 4, .int .i64 8, .int .i64 16] 3)).alloc (.cells #[.int .i64 1, .int .i64 2, .int .i64 4, .int .i64 8, .int .i64 16] 3)) = W2 at *
   have X3 : UAt W2 w.heap.size (bit s.ca) s.la s.ct s.qs := by
    rw [<- HS.out, HP.out]; exact X2.congr fun i _ => PB.out i
   clear X2 HP PB HS q n0 n1 h
   have Y3 := UAt.row Y2 (bit s.ca) s.la s.ct s.qs
   have hB3 := below_setRow hB2 (sl (bit s.ca) s.la s.ct s.qs).toArray (g := w.heap.size + 1) (by omega)
   go_wp2_with (first | (refine loadU rfl (.tmp 2) rfl rfl X3 ?_) | (refine storeU rfl (.tmp 4) (.tmp 30) rfl rfl (f := bit s.ca) (la := s.la) (ct := s.ct) (qs := s.qs) rfl Y2 ?_))
   exact bodyPost_ret (resU2 rfl _ _ _ rfl rfl Y3) rfl ⟨rfl, hB3⟩
set_option maxRecDepth 100000 in
set_option maxHeartbeats 1600000 in
theorem uLatch8 (t : Rs) (w : World) (h : t.ok) : Calls Tryz.prog 152 #[.agg (ul t).toArray, .int .i64 8] w fun e w' => e = .returned (.tuple #[.agg (ul (t.put 8)).toArray, .bool true]) /\ Below w.heap.size w w' := by
 have hB0 := trA (trA (tr0 w) (oU (bit t.ca) t.la t.ct t.qs)) zU
 have X : UAt ((w.alloc (oU (bit t.ca) t.la t.ct t.qs)).alloc zU) w.heap.size (bit t.ca) t.la t.ct t.qs := b2_0 w _ _
 have Y : UAt ((w.alloc (oU (bit t.ca) t.la t.ct t.qs)).alloc zU) (w.heap.size + 1) (fun _ => false) 0 0 false := b2_1 w _ _
 unfold ul
 have n0 := h.c0
 have n1 := h.c1
 have PB := Hd (put_bits t 3 8 h (by omega) rfl)
 obtain ⟨N, hN⟩ : ∃ N, up1 t.ct = N := ⟨_, rfl⟩
 have HP := Hd (show (t.put 8).ct = N from hN)
 obtain ⟨s, hs⟩ : ∃ s, t.put 8 = s := ⟨_, rfl⟩
 rw [hs]
 have HS := Hd hs
 clear hs
 by_cases hm : t.ct < 4294967295
 . have hu : N = t.ct + 1 := by rw [<- hN]; unfold up1; rw [if_pos hm]
   have q : (t.ct != 4294967295) = true := by simp; omega
   subst hu
   clear hN
   go_enter Tryz.func152, Tryz.ntmps152
   go_upto_region 1 with (fail)
   rw [oU_eq, zU_eq]
   generalize (w.alloc (oU (bit t.ca) t.la t.ct t.qs)).alloc zU = W at *
   have hl := X.lt
   have hl2 : w.heap.size < W.heap.size + 1 := by omega
   have hl3 : w.heap.size < W.heap.size + 1 + 1 := by omega
   have hl4 : w.heap.size < W.heap.size + 1 + 1 + 1 := by omega
   have x1 := X.ci 3 (by omega)
   have x2 := X.c32
   have x3 := X.c33
   have x4 := X.c34
   have f1 := X.free 3
   have f2 := X.free 32
   have f3 := X.free 33
   have f4 := X.free 34
   go_wp2_with fail
   refine wp_loop_rounds 5 ?_
   rw [rounds_succ]
   go_wp2_with fail
   rw [rounds_succ]
   go_wp2_with fail
   rw [rounds_succ]
   go_upto_region 8 with (fail)
   have X2 := (((((((X.si 3 true (by omega)).s32 8).s34 false).s33 (t.ct + 1)).alloc (.cells #[.int .i64 1, .int .i64 2, .int .i64 4, .int .i64 8, .int .i64 16] 3)).alloc (.cells #[.int .i64 1, .int .i64 2, .int .i64 4, .int .i64 8, .int .i64 16] 3)).alloc (.cells #[.int .i64 1, .int .i64 2, .int .i64 4, .int .i64 8, .int .i64 16] 3))
   have Y2 := (((((((Y.other w.heap.size 3 (.bool true) (by omega)).other w.heap.size 32 (.int .i64 8) (by omega)).other w.heap.size 34 (.bool false) (by omega)).other w.heap.size 33 (.int .u32 (t.ct + 1)) (by omega)).alloc (.cells #[.int .i64 1, .int .i64 2, .int .i64 4, .int .i64 8, .int .i64 16] 3)).alloc (.cells #[.int .i64 1, .int .i64 2, .int .i64 4, .int .i64 8, .int .i64 16] 3)).alloc (.cells #[.int .i64 1, .int .i64 2, .int .i64 4, .int .i64 8, .int .i64 16] 3))
   have hB2 := (trA (trA (trA ((((hB0.setCell (p := ⟨w.heap.size, 3, none⟩) (by simp) (.bool true)).setCell (p := ⟨w.heap.size, 32, none⟩) (by simp) (.int .i64 8)).setCell (p := ⟨w.heap.size, 34, none⟩) (by simp) (.bool false)).setCell (p := ⟨w.heap.size, 33, none⟩) (by simp) (.int .u32 (t.ct + 1))) (.cells #[.int .i64 1, .int .i64 2, .int .i64 4, .int .i64 8, .int .i64 16] 3)) (.cells #[.int .i64 1, .int .i64 2, .int .i64 4, .int .i64 8, .int .i64 16] 3)) (.cells #[.int .i64 1, .int .i64 2, .int .i64 4, .int .i64 8, .int .i64 16] 3))
   clear X Y hB0 x1 x2 x3 x4 f1 f2 f3 f4 hl hl2 hl3 hl4
   generalize (((((((W.setCell ⟨w.heap.size, 3, none⟩ (.bool true)).setCell ⟨w.heap.size, 32, none⟩ (.int .i64 8)).setCell ⟨w.heap.size, 34, none⟩ (.bool false)).setCell ⟨w.heap.size, 33, none⟩ (.int .u32 (t.ct + 1))).alloc (.cells #[.int .i64 1, .int .i64 2, .int .i64 4, .int .i64 8, .int .i64 16] 3)).alloc (.cells #[.int .i64 1, .int .i64 2, .int .i64 4, .int .i64 8, .int .i64 16] 3)).alloc (.cells #[.int .i64 1, .int .i64 2, .int .i64 4, .int .i64 8, .int .i64 16] 3)) = W2 at *
   have X3 : UAt W2 w.heap.size (bit s.ca) s.la s.ct s.qs := by
    rw [<- HS.out, HP.out]; exact X2.congr fun i _ => PB.out i
   clear X2 HP PB HS q n0 n1 h hm
   have Y3 := UAt.row Y2 (bit s.ca) s.la s.ct s.qs
   have hB3 := below_setRow hB2 (sl (bit s.ca) s.la s.ct s.qs).toArray (g := w.heap.size + 1) (by omega)
   go_wp2_with (first | (refine loadU rfl (.tmp 2) rfl rfl X3 ?_) | (refine storeU rfl (.tmp 4) (.tmp 30) rfl rfl (f := bit s.ca) (la := s.la) (ct := s.ct) (qs := s.qs) rfl Y2 ?_))
   exact bodyPost_ret (resU2 rfl _ _ _ rfl rfl Y3) rfl ⟨rfl, hB3⟩
 . have hu : N = t.ct := by rw [<- hN]; unfold up1; rw [if_neg hm]
   have q : (t.ct != 4294967295) = false := by simp; omega
   subst hu
   clear hN hm
   go_enter Tryz.func152, Tryz.ntmps152
   go_upto_region 1 with (fail)
   rw [oU_eq, zU_eq]
   generalize (w.alloc (oU (bit t.ca) t.la t.ct t.qs)).alloc zU = W at *
   have hl := X.lt
   have hl2 : w.heap.size < W.heap.size + 1 := by omega
   have hl3 : w.heap.size < W.heap.size + 1 + 1 := by omega
   have hl4 : w.heap.size < W.heap.size + 1 + 1 + 1 := by omega
   have x1 := X.ci 3 (by omega)
   have x2 := X.c32
   have x3 := X.c33
   have x4 := X.c34
   have f1 := X.free 3
   have f2 := X.free 32
   have f3 := X.free 33
   have f4 := X.free 34
   go_wp2_with fail
   refine wp_loop_rounds 5 ?_
   rw [rounds_succ]
   go_wp2_with fail
   rw [rounds_succ]
   go_wp2_with fail
   rw [rounds_succ]
   go_upto_region 8 with (fail)
   have X2 := ((((((X.si 3 true (by omega)).s32 8).s34 false).alloc (.cells #[.int .i64 1, .int .i64 2, .int .i64 4, .int .i64 8, .int .i64 16] 3)).alloc (.cells #[.int .i64 1, .int .i64 2, .int .i64 4, .int .i64 8, .int .i64 16] 3)).alloc (.cells #[.int .i64 1, .int .i64 2, .int .i64 4, .int .i64 8, .int .i64 16] 3))
   have Y2 := ((((((Y.other w.heap.size 3 (.bool true) (by omega)).other w.heap.size 32 (.int .i64 8) (by omega)).other w.heap.size 34 (.bool false) (by omega)).alloc (.cells #[.int .i64 1, .int .i64 2, .int .i64 4, .int .i64 8, .int .i64 16] 3)).alloc (.cells #[.int .i64 1, .int .i64 2, .int .i64 4, .int .i64 8, .int .i64 16] 3)).alloc (.cells #[.int .i64 1, .int .i64 2, .int .i64 4, .int .i64 8, .int .i64 16] 3))
   have hB2 := (trA (trA (trA (((hB0.setCell (p := ⟨w.heap.size, 3, none⟩) (by simp) (.bool true)).setCell (p := ⟨w.heap.size, 32, none⟩) (by simp) (.int .i64 8)).setCell (p := ⟨w.heap.size, 34, none⟩) (by simp) (.bool false)) (.cells #[.int .i64 1, .int .i64 2, .int .i64 4, .int .i64 8, .int .i64 16] 3)) (.cells #[.int .i64 1, .int .i64 2, .int .i64 4, .int .i64 8, .int .i64 16] 3)) (.cells #[.int .i64 1, .int .i64 2, .int .i64 4, .int .i64 8, .int .i64 16] 3))
   clear X Y hB0 x1 x2 x3 x4 f1 f2 f3 f4 hl hl2 hl3 hl4
   generalize ((((((W.setCell ⟨w.heap.size, 3, none⟩ (.bool true)).setCell ⟨w.heap.size, 32, none⟩ (.int .i64 8)).setCell ⟨w.heap.size, 34, none⟩ (.bool false)).alloc (.cells #[.int .i64 1, .int .i64 2, .int .i64 4, .int .i64 8, .int .i64 16] 3)).alloc (.cells #[.int .i64 1, .int .i64 2, .int .i64 4, .int .i64 8, .int .i64 16] 3)).alloc (.cells #[.int .i64 1, .int .i64 2, .int .i64 4, .int .i64 8, .int .i64 16] 3)) = W2 at *
   have X3 : UAt W2 w.heap.size (bit s.ca) s.la s.ct s.qs := by
    rw [<- HS.out, HP.out]; exact X2.congr fun i _ => PB.out i
   clear X2 HP PB HS q n0 n1 h
   have Y3 := UAt.row Y2 (bit s.ca) s.la s.ct s.qs
   have hB3 := below_setRow hB2 (sl (bit s.ca) s.la s.ct s.qs).toArray (g := w.heap.size + 1) (by omega)
   go_wp2_with (first | (refine loadU rfl (.tmp 2) rfl rfl X3 ?_) | (refine storeU rfl (.tmp 4) (.tmp 30) rfl rfl (f := bit s.ca) (la := s.la) (ct := s.ct) (qs := s.qs) rfl Y2 ?_))
   exact bodyPost_ret (resU2 rfl _ _ _ rfl rfl Y3) rfl ⟨rfl, hB3⟩
set_option maxRecDepth 100000 in
set_option maxHeartbeats 1600000 in
theorem uLatch16 (t : Rs) (w : World) (h : t.ok) : Calls Tryz.prog 152 #[.agg (ul t).toArray, .int .i64 16] w fun e w' => e = .returned (.tuple #[.agg (ul (t.put 16)).toArray, .bool true]) /\ Below w.heap.size w w' := by
 have hB0 := trA (trA (tr0 w) (oU (bit t.ca) t.la t.ct t.qs)) zU
 have X : UAt ((w.alloc (oU (bit t.ca) t.la t.ct t.qs)).alloc zU) w.heap.size (bit t.ca) t.la t.ct t.qs := b2_0 w _ _
 have Y : UAt ((w.alloc (oU (bit t.ca) t.la t.ct t.qs)).alloc zU) (w.heap.size + 1) (fun _ => false) 0 0 false := b2_1 w _ _
 unfold ul
 have n0 := h.c0
 have n1 := h.c1
 have PB := Hd (put_bits t 4 16 h (by omega) rfl)
 obtain ⟨N, hN⟩ : ∃ N, up1 t.ct = N := ⟨_, rfl⟩
 have HP := Hd (show (t.put 16).ct = N from hN)
 obtain ⟨s, hs⟩ : ∃ s, t.put 16 = s := ⟨_, rfl⟩
 rw [hs]
 have HS := Hd hs
 clear hs
 by_cases hm : t.ct < 4294967295
 . have hu : N = t.ct + 1 := by rw [<- hN]; unfold up1; rw [if_pos hm]
   have q : (t.ct != 4294967295) = true := by simp; omega
   subst hu
   clear hN
   go_enter Tryz.func152, Tryz.ntmps152
   go_upto_region 1 with (fail)
   rw [oU_eq, zU_eq]
   generalize (w.alloc (oU (bit t.ca) t.la t.ct t.qs)).alloc zU = W at *
   have hl := X.lt
   have hl2 : w.heap.size < W.heap.size + 1 := by omega
   have hl3 : w.heap.size < W.heap.size + 1 + 1 := by omega
   have hl4 : w.heap.size < W.heap.size + 1 + 1 + 1 := by omega
   have x1 := X.ci 4 (by omega)
   have x2 := X.c32
   have x3 := X.c33
   have x4 := X.c34
   have f1 := X.free 4
   have f2 := X.free 32
   have f3 := X.free 33
   have f4 := X.free 34
   go_wp2_with fail
   refine wp_loop_rounds 5 ?_
   rw [rounds_succ]
   go_wp2_with fail
   rw [rounds_succ]
   go_wp2_with fail
   rw [rounds_succ]
   go_wp2_with fail
   rw [rounds_succ]
   go_upto_region 8 with (fail)
   have X2 := ((((((((X.si 4 true (by omega)).s32 16).s34 false).s33 (t.ct + 1)).alloc (.cells #[.int .i64 1, .int .i64 2, .int .i64 4, .int .i64 8, .int .i64 16] 3)).alloc (.cells #[.int .i64 1, .int .i64 2, .int .i64 4, .int .i64 8, .int .i64 16] 3)).alloc (.cells #[.int .i64 1, .int .i64 2, .int .i64 4, .int .i64 8, .int .i64 16] 3)).alloc (.cells #[.int .i64 1, .int .i64 2, .int .i64 4, .int .i64 8, .int .i64 16] 3))
   have Y2 := ((((((((Y.other w.heap.size 4 (.bool true) (by omega)).other w.heap.size 32 (.int .i64 16) (by omega)).other w.heap.size 34 (.bool false) (by omega)).other w.heap.size 33 (.int .u32 (t.ct + 1)) (by omega)).alloc (.cells #[.int .i64 1, .int .i64 2, .int .i64 4, .int .i64 8, .int .i64 16] 3)).alloc (.cells #[.int .i64 1, .int .i64 2, .int .i64 4, .int .i64 8, .int .i64 16] 3)).alloc (.cells #[.int .i64 1, .int .i64 2, .int .i64 4, .int .i64 8, .int .i64 16] 3)).alloc (.cells #[.int .i64 1, .int .i64 2, .int .i64 4, .int .i64 8, .int .i64 16] 3))
   have hB2 := (trA (trA (trA (trA ((((hB0.setCell (p := ⟨w.heap.size, 4, none⟩) (by simp) (.bool true)).setCell (p := ⟨w.heap.size, 32, none⟩) (by simp) (.int .i64 16)).setCell (p := ⟨w.heap.size, 34, none⟩) (by simp) (.bool false)).setCell (p := ⟨w.heap.size, 33, none⟩) (by simp) (.int .u32 (t.ct + 1))) (.cells #[.int .i64 1, .int .i64 2, .int .i64 4, .int .i64 8, .int .i64 16] 3)) (.cells #[.int .i64 1, .int .i64 2, .int .i64 4, .int .i64 8, .int .i64 16] 3)) (.cells #[.int .i64 1, .int .i64 2, .int .i64 4, .int .i64 8, .int .i64 16] 3)) (.cells #[.int .i64 1, .int .i64 2, .int .i64 4, .int .i64 8, .int .i64 16] 3))
   clear X Y hB0 x1 x2 x3 x4 f1 f2 f3 f4 hl hl2 hl3 hl4
   generalize ((((((((W.setCell ⟨w.heap.size, 4, none⟩ (.bool true)).setCell ⟨w.heap.size, 32, none⟩ (.int .i64 16)).setCell ⟨w.heap.size, 34, none⟩ (.bool false)).setCell ⟨w.heap.size, 33, none⟩ (.int .u32 (t.ct + 1))).alloc (.cells #[.int .i64 1, .int .i64 2, .int .i64 4, .int .i64 8, .int .i64 16] 3)).alloc (.cells #[.int .i64 1, .int .i64 2, .int .i64 4, .int .i64 8, .int .i64 16] 3)).alloc (.cells #[.int .i64 1, .int .i64 2, .int .i64 4, .int .i64 8, .int .i64 16] 3)).alloc (.cells #[.int .i64 1, .int .i64 2, .int .i64 4, .int .i64 8, .int .i64 16] 3)) = W2 at *
   have X3 : UAt W2 w.heap.size (bit s.ca) s.la s.ct s.qs := by
    rw [<- HS.out, HP.out]; exact X2.congr fun i _ => PB.out i
   clear X2 HP PB HS q n0 n1 h hm
   have Y3 := UAt.row Y2 (bit s.ca) s.la s.ct s.qs
   have hB3 := below_setRow hB2 (sl (bit s.ca) s.la s.ct s.qs).toArray (g := w.heap.size + 1) (by omega)
   go_wp2_with (first | (refine loadU rfl (.tmp 2) rfl rfl X3 ?_) | (refine storeU rfl (.tmp 4) (.tmp 30) rfl rfl (f := bit s.ca) (la := s.la) (ct := s.ct) (qs := s.qs) rfl Y2 ?_))
   exact bodyPost_ret (resU2 rfl _ _ _ rfl rfl Y3) rfl ⟨rfl, hB3⟩
 . have hu : N = t.ct := by rw [<- hN]; unfold up1; rw [if_neg hm]
   have q : (t.ct != 4294967295) = false := by simp; omega
   subst hu
   clear hN hm
   go_enter Tryz.func152, Tryz.ntmps152
   go_upto_region 1 with (fail)
   rw [oU_eq, zU_eq]
   generalize (w.alloc (oU (bit t.ca) t.la t.ct t.qs)).alloc zU = W at *
   have hl := X.lt
   have hl2 : w.heap.size < W.heap.size + 1 := by omega
   have hl3 : w.heap.size < W.heap.size + 1 + 1 := by omega
   have hl4 : w.heap.size < W.heap.size + 1 + 1 + 1 := by omega
   have x1 := X.ci 4 (by omega)
   have x2 := X.c32
   have x3 := X.c33
   have x4 := X.c34
   have f1 := X.free 4
   have f2 := X.free 32
   have f3 := X.free 33
   have f4 := X.free 34
   go_wp2_with fail
   refine wp_loop_rounds 5 ?_
   rw [rounds_succ]
   go_wp2_with fail
   rw [rounds_succ]
   go_wp2_with fail
   rw [rounds_succ]
   go_wp2_with fail
   rw [rounds_succ]
   go_upto_region 8 with (fail)
   have X2 := (((((((X.si 4 true (by omega)).s32 16).s34 false).alloc (.cells #[.int .i64 1, .int .i64 2, .int .i64 4, .int .i64 8, .int .i64 16] 3)).alloc (.cells #[.int .i64 1, .int .i64 2, .int .i64 4, .int .i64 8, .int .i64 16] 3)).alloc (.cells #[.int .i64 1, .int .i64 2, .int .i64 4, .int .i64 8, .int .i64 16] 3)).alloc (.cells #[.int .i64 1, .int .i64 2, .int .i64 4, .int .i64 8, .int .i64 16] 3))
   have Y2 := (((((((Y.other w.heap.size 4 (.bool true) (by omega)).other w.heap.size 32 (.int .i64 16) (by omega)).other w.heap.size 34 (.bool false) (by omega)).alloc (.cells #[.int .i64 1, .int .i64 2, .int .i64 4, .int .i64 8, .int .i64 16] 3)).alloc (.cells #[.int .i64 1, .int .i64 2, .int .i64 4, .int .i64 8, .int .i64 16] 3)).alloc (.cells #[.int .i64 1, .int .i64 2, .int .i64 4, .int .i64 8, .int .i64 16] 3)).alloc (.cells #[.int .i64 1, .int .i64 2, .int .i64 4, .int .i64 8, .int .i64 16] 3))
   have hB2 := (trA (trA (trA (trA (((hB0.setCell (p := ⟨w.heap.size, 4, none⟩) (by simp) (.bool true)).setCell (p := ⟨w.heap.size, 32, none⟩) (by simp) (.int .i64 16)).setCell (p := ⟨w.heap.size, 34, none⟩) (by simp) (.bool false)) (.cells #[.int .i64 1, .int .i64 2, .int .i64 4, .int .i64 8, .int .i64 16] 3)) (.cells #[.int .i64 1, .int .i64 2, .int .i64 4, .int .i64 8, .int .i64 16] 3)) (.cells #[.int .i64 1, .int .i64 2, .int .i64 4, .int .i64 8, .int .i64 16] 3)) (.cells #[.int .i64 1, .int .i64 2, .int .i64 4, .int .i64 8, .int .i64 16] 3))
   clear X Y hB0 x1 x2 x3 x4 f1 f2 f3 f4 hl hl2 hl3 hl4
   generalize (((((((W.setCell ⟨w.heap.size, 4, none⟩ (.bool true)).setCell ⟨w.heap.size, 32, none⟩ (.int .i64 16)).setCell ⟨w.heap.size, 34, none⟩ (.bool false)).alloc (.cells #[.int .i64 1, .int .i64 2, .int .i64 4, .int .i64 8, .int .i64 16] 3)).alloc (.cells #[.int .i64 1, .int .i64 2, .int .i64 4, .int .i64 8, .int .i64 16] 3)).alloc (.cells #[.int .i64 1, .int .i64 2, .int .i64 4, .int .i64 8, .int .i64 16] 3)).alloc (.cells #[.int .i64 1, .int .i64 2, .int .i64 4, .int .i64 8, .int .i64 16] 3)) = W2 at *
   have X3 : UAt W2 w.heap.size (bit s.ca) s.la s.ct s.qs := by
    rw [<- HS.out, HP.out]; exact X2.congr fun i _ => PB.out i
   clear X2 HP PB HS q n0 n1 h
   have Y3 := UAt.row Y2 (bit s.ca) s.la s.ct s.qs
   have hB3 := below_setRow hB2 (sl (bit s.ca) s.la s.ct s.qs).toArray (g := w.heap.size + 1) (by omega)
   go_wp2_with (first | (refine loadU rfl (.tmp 2) rfl rfl X3 ?_) | (refine storeU rfl (.tmp 4) (.tmp 30) rfl rfl (f := bit s.ca) (la := s.la) (ct := s.ct) (qs := s.qs) rfl Y2 ?_))
   exact bodyPost_ret (resU2 rfl _ _ _ rfl rfl Y3) rfl ⟨rfl, hB3⟩
set_option maxRecDepth 100000 in
set_option maxHeartbeats 1600000 in
theorem uLatchNo (t : Rs) (c : Int) (w : World) (hc : ¬ isC c) : Calls Tryz.prog 152 #[.agg (ul t).toArray, .int .i64 c] w fun e w' => e = .returned (.tuple #[.agg (ul t).toArray, .bool false]) /\ Below w.heap.size w w' := by
 have hB0 := trA (trA (tr0 w) (oU (bit t.ca) t.la t.ct t.qs)) zU
 have X : UAt ((w.alloc (oU (bit t.ca) t.la t.ct t.qs)).alloc zU) w.heap.size (bit t.ca) t.la t.ct t.qs := b2_0 w _ _
 have Y : UAt ((w.alloc (oU (bit t.ca) t.la t.ct t.qs)).alloc zU) (w.heap.size + 1) (fun _ => false) 0 0 false := b2_1 w _ _
 unfold ul
 have n2 : (c == 2) = false := by unfold isC at hc; simp; omega
 have n4 : (c == 4) = false := by unfold isC at hc; simp; omega
 have n8 : (c == 8) = false := by unfold isC at hc; simp; omega
 have n16 : (c == 16) = false := by unfold isC at hc; simp; omega
 clear hc
 go_enter Tryz.func152, Tryz.ntmps152
 go_upto_region 1 with (fail)
 rw [oU_eq, zU_eq]
 generalize (w.alloc (oU (bit t.ca) t.la t.ct t.qs)).alloc zU = W at *
 have hl := X.lt
 go_wp2_with fail
 refine wp_loop_rounds 5 ?_
 rw [rounds_succ]
 go_wp2_with fail
 rw [rounds_succ]
 go_wp2_with fail
 rw [rounds_succ]
 go_wp2_with fail
 rw [rounds_succ]
 go_wp2_with fail
 rw [rounds_succ]
 go_upto_region 9 with (fail)
 have X3 := ((((X.alloc (.cells #[.int .i64 1, .int .i64 2, .int .i64 4, .int .i64 8, .int .i64 16] 3)).alloc (.cells #[.int .i64 1, .int .i64 2, .int .i64 4, .int .i64 8, .int .i64 16] 3)).alloc (.cells #[.int .i64 1, .int .i64 2, .int .i64 4, .int .i64 8, .int .i64 16] 3)).alloc (.cells #[.int .i64 1, .int .i64 2, .int .i64 4, .int .i64 8, .int .i64 16] 3))
 have Y2 := ((((Y.alloc (.cells #[.int .i64 1, .int .i64 2, .int .i64 4, .int .i64 8, .int .i64 16] 3)).alloc (.cells #[.int .i64 1, .int .i64 2, .int .i64 4, .int .i64 8, .int .i64 16] 3)).alloc (.cells #[.int .i64 1, .int .i64 2, .int .i64 4, .int .i64 8, .int .i64 16] 3)).alloc (.cells #[.int .i64 1, .int .i64 2, .int .i64 4, .int .i64 8, .int .i64 16] 3))
 have hB2 := (trA (trA (trA (trA hB0 (.cells #[.int .i64 1, .int .i64 2, .int .i64 4, .int .i64 8, .int .i64 16] 3)) (.cells #[.int .i64 1, .int .i64 2, .int .i64 4, .int .i64 8, .int .i64 16] 3)) (.cells #[.int .i64 1, .int .i64 2, .int .i64 4, .int .i64 8, .int .i64 16] 3)) (.cells #[.int .i64 1, .int .i64 2, .int .i64 4, .int .i64 8, .int .i64 16] 3))
 clear X Y hB0 hl
 generalize ((((W.alloc (.cells #[.int .i64 1, .int .i64 2, .int .i64 4, .int .i64 8, .int .i64 16] 3)).alloc (.cells #[.int .i64 1, .int .i64 2, .int .i64 4, .int .i64 8, .int .i64 16] 3)).alloc (.cells #[.int .i64 1, .int .i64 2, .int .i64 4, .int .i64 8, .int .i64 16] 3)).alloc (.cells #[.int .i64 1, .int .i64 2, .int .i64 4, .int .i64 8, .int .i64 16] 3)) = W2 at *
 have Y3 := UAt.row Y2 (bit t.ca) t.la t.ct t.qs
 have hB3 := below_setRow hB2 (sl (bit t.ca) t.la t.ct t.qs).toArray (g := w.heap.size + 1) (by omega)
 go_wp2_with (first | (refine loadU rfl (.tmp 2) rfl rfl X3 ?_) | (refine storeU rfl (.tmp 4) (.tmp 31) rfl rfl (f := bit t.ca) (la := t.la) (ct := t.ct) (qs := t.qs) rfl Y2 ?_))
 exact bodyPost_ret (resU2 rfl _ _ _ rfl rfl Y3) rfl ⟨rfl, hB3⟩
theorem uLatch (t : Rs) (c : Int) (w : World) (h : t.ok) : Calls Tryz.prog 152 #[.agg (ul t).toArray, .int .i64 c] w fun e w' => e = .returned (.tuple #[.agg (ul (t.ltc c)).toArray, .bool (decide (isC c))]) /\ Below w.heap.size w w' := by
 by_cases hc : isC c
 . have e1 : t.ltc c = t.put c := by unfold Rs.ltc; rw [if_pos hc]
   rw [e1, decide_eq_true hc]
   unfold isC at hc
   rcases hc with rfl | rfl | rfl | rfl
   . exact uLatch2 t w h
   . exact uLatch4 t w h
   . exact uLatch8 t w h
   . exact uLatch16 t w h
 . have e1 : t.ltc c = t := by unfold Rs.ltc; rw [if_neg hc]
   rw [e1, decide_eq_false hc]
   exact uLatchNo t c w hc
theorem gTick {w : World} {g n cap : Nat} {t : Nat -> Tm} (h : RwAt w g n cap t) (ok : ∀ i, i < n -> (t i).ok) (n0 : 1 <= n) (n8 : n <= 8) (N : Int) (N0 : 0 <= N) (N1 : N < 18446744073709551616) :
 Calls Tryz.prog 85 #[.slice (some ⟨g, 0, none⟩) n cap, .int .u64 N] w fun e w' => ∃ g' cap', e = .returned (.slice (some ⟨g', 0, none⟩) n cap') /\ w.heap.size <= g' /\ RwAt w' g' n cap' (fun i => (t i).tick N) /\ Below w.heap.size w w' := by
 have hcm := h.cm
 have hnc := h.nc
 have hgl := h.lt
 unfold maxLen at hcm
 have OK := Hd ok
 clear ok
 go_enter Tryz.func85, Tryz.ntmps85
 go_wp2_with fail
 go_loopw [5, 6] (fun v i wr => ∃ (k : Nat) (V : Value), k <= n /\ i = .int .i64 k /\ v = V /\ OutAt wr w.heap.size V k (fun i => (t i).tick N) /\ RwAt wr g n cap t /\ Below w.heap.size w wr) (fun v i wr => n - (intOf i).toNat)
 case atStart => exact ⟨0, _, by omega, rfl, rfl, out_nil _ _ _, h, tr0 w⟩
 case round =>
  clear h
  obtain ⟨k, V, hk, rfl, rfl, O, H, hB⟩ := hrel
  by_cases hlt : k < n
  . have hin := H.at hlt
    go_wp2_with (refine loadR rfl (.tmp 16) rfl rfl hin ?_)
    refine (mTick (t k) N wr (OK.out k hlt) N0 N1).mono ?_
    rintro e w1 ⟨rfl, hb⟩
    have O1 := O.below hb
    have H1 := H.below hb
    have B1 := tr hB hb
    clear O H hB hb hin
    have O2 := O1.below (trA (tr0 w1) (oM ((t k).tick N)))
    have H2 := H1.below (trA (tr0 w1) (oM ((t k).tick N)))
    have B2 := trA B1 (oM ((t k).tick N))
    have Y := inNew w1 ((t k).tick N)
    have hBs := B2.size
    clear O1 H1 B1
    go_wp2_with (first
     | (refine buildR rfl (.tmp 19) rfl rfl ?_)
     | (refine appendR rfl (.tmp 13) (.tmp 20) rfl rfl O2 rfl Y rfl (by omega) hBs ?_; intro v' w3 O3 ho3))
    have hown := fun b hb => O2.block (b := b) hb
    have H3 := H2.off ho3 (fun e => by have := hown g e; have := hgl; omega)
    have B3 := Off.toBelow B2 ho3 (fun b hb e => by have := hown b e; omega) (Nat.le_refl _)
    clear O2 H2 B2 Y ho3 hBs hown
    go_wp2_with fail
    go_roundw
    case rel => exact ⟨k + 1, _, by omega, by go_num, rfl, O3, H3, B3⟩
    case measure => simp [intOf]; omega
  . obtain rfl : k = n := by omega
    obtain ⟨g', cap', rfl, hg', R⟩ := O.rw (by omega)
    go_wp2_with fail
    go_ret
    exact ⟨g', cap', rfl, hg', R, hB⟩
end Go.Proofs.YtcgmnjajodegmaaGreat.B
