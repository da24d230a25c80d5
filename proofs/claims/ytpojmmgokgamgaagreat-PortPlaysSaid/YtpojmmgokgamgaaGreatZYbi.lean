/- A part of the proof of a law of layer 12: bi. -/
import Derived.Test.YtpojmmgokgamgaaGreatZYbg
set_option linter.unusedVariables false
set_option linter.unusedSimpArgs false
set_option maxHeartbeats 12800000
set_option maxRecDepth 100000
namespace Go.Proofs.YtpojmmgokgamgaaGreat.B
open Go.Proofs.Tryz
open Go.ChangeShapes Go.WideShapes Go.RowKit Go.Sort
theorem aEc (f : Nat -> Bool) (w : World) : (Instr.build 46 #[(0, .agg (bl f 32).toArray), (1, .int .i64 1)]).run prog w = .ok (.agg (sl f 1 0 false).toArray) w := by kernel_rfl
theorem aB5 {ops : Array Oper} {rest : List Oper} {o : Oper} {a : Act} {w : World} {Q : Exit -> Act -> World -> Prop} (hgd : o.guard = none) (x : Operand) (ho : o.op = .build 46 #[(0, x), (1, .const (.int .i64 1))]) {f : Nat -> Bool} (hx : a.eval x = .agg (bl f 32).toArray)
 (h : wpList prog ops Q rest (a.put o.dst (.agg (sl f 1 0 false).toArray)) w) : wpList prog ops Q (o :: rest) a w :=
 wpList_plain hgd fun _ hK => by
  have hb := aEc f w
  unfold Oper.wp execOp
  have hk : a.eval (.const (.int .i64 1)) = .int .i64 1 := rfl
  simp only [ho, Sem.run_bind, List.map_toArray, List.map_cons, List.map_nil, hx, hk]
  rw [hb]
  exact hK _ _ h
theorem aHG (w : World) : Calls prog 29 #[] w fun e w' => e = .returned (.agg (ul rsN).toArray) /\ Below w.heap.size w w' := by
 have X := aJY w (fun _ => false) 0 0 false
 have hb := aE (aI w) zU
 go_enter func29, ntmps29
 go_wp2_with fail
 rw [jW]
 have X : dR (w.alloc zU) w.heap.size (fun _ => false) 0 0 false := X
 generalize w.alloc zU = W at *
 refine (aFK 1 _ (by omega) (by omega)).mono ?_
 rintro e w1 ⟨rfl, h1⟩
 have X1 := X.below h1
 have hB := tr hb h1
 obtain ⟨f, hf⟩ : ∃ f, aO 1 = f := ⟨_, rfl⟩
 have HF := Hd (show ul rsN = sl f 1 0 false by rw [<- hf]; rfl)
 rw [hf]
 have Z := dR.row X1 f 1 0 false
 have hZ := aB hB (sl f 1 0 false).toArray (g := w.heap.size) (Nat.le_refl _)
 clear X hb h1 hf
 go_wp2_with (first | (refine aB5 rfl (.tmp 1) rfl (f := f) rfl ?_) | (refine mH rfl (.tmp 0) (.tmp 2) rfl rfl (f := f) (la := 1) (ct := 0) (qs := false) rfl X1 ?_))
 exact bodyPost_ret (aOe rfl _ _ rfl Z) rfl ⟨by rw [HF.out], hZ⟩
theorem oY (t : Rs) (k : Nat) (c : Int) (h : t.ok) (hk : k < 32) (hc : c = ((2 ^ k : Nat) : Int)) (i : Nat) : (if i = k then true else aO t.ca i) = aO (t.put c).ca i := by
 subst hc
 exact (aCJ t.ca k i h.a0 h.a1 hk).symm
theorem gI {P : Prop} (h : P := by
 rw [<- HS.out, HP.out]; exact X2.congr fun i _ => PB.out i
 ) : P := h
theorem gJ {P : Prop} (h : P := by
 have Y3 := dR.row Y2 (aO s.ca) s.la s.ct s.qs
 have hB3 := aB hB2 (sl (aO s.ca) s.la s.ct s.qs).toArray (g := w.heap.size + 1) (by omega)
 go_wp2_with (first | (refine lL rfl (.tmp 2) rfl rfl X3 ?_) | (refine mH rfl (.tmp 4) (.tmp 30) rfl rfl (f := aO s.ca) (la := s.la) (ct := s.ct) (qs := s.qs) rfl Y2 ?_))
 exact bodyPost_ret (tE rfl _ _ _ rfl rfl Y3) rfl ⟨rfl, hB3⟩
 ) : P := h
theorem aIo (t : Rs) (w : World) (h : t.ok) : Calls prog 127 #[.agg (ul t).toArray, .int .i64 2] w fun e w' => e = .returned (.tuple #[.agg (ul (t.put 2)).toArray, .bool true]) /\ Below w.heap.size w w' := by
 have hB0 := aE (aE (aI w) (oU (aO t.ca) t.la t.ct t.qs)) zU
 have X : dR ((w.alloc (oU (aO t.ca) t.la t.ct t.qs)).alloc zU) w.heap.size (aO t.ca) t.la t.ct t.qs := bG w _ _
 have Y : dR ((w.alloc (oU (aO t.ca) t.la t.ct t.qs)).alloc zU) (w.heap.size + 1) (fun _ => false) 0 0 false := bL w _ _
 unfold ul
 have n0 := h.c0
 have n1 := h.c1
 have PB := Hd (oY t 1 2 h (by omega) rfl)
 obtain ⟨N, hN⟩ : ∃ N, tL t.ct = N := ⟨_, rfl⟩
 have HP := Hd (show (t.put 2).ct = N from hN)
 obtain ⟨s, hs⟩ : ∃ s, t.put 2 = s := ⟨_, rfl⟩
 rw [hs]
 have HS := Hd hs
 clear hs
 by_cases hm : t.ct < 4294967295
 . have hu : N = t.ct + 1 := by rw [<- hN]; unfold tL; rw [if_pos hm]
   have q : (t.ct != 4294967295) = true := by simp; omega
   subst hu
   clear hN
   go_enter func127, ntmps127
   go_upto_region 1 with (fail)
   rw [gT, jW]
   generalize (w.alloc (oU (aO t.ca) t.la t.ct t.qs)).alloc zU = W at *
   have hl := X.lt
   have hl2 : w.heap.size < W.heap.size + 1 := by omega
   have hl3 : w.heap.size < W.heap.size + 1 + 1 := by omega
   have hl4 : w.heap.size < W.heap.size + 1 + 1 + 1 := by omega
   have x1 := X.ci 1 (by omega)
   have x2 := X.c32
   have x3 := X.c33
   have x4 := X.c34
   have f1 := X.free 1
   have f2 := X.free 32
   have f3 := X.free 33
   have f4 := X.free 34
   go_wp2_with fail
   refine wp_loop_rounds 5 ?_
   rw [rounds_succ]
   go_upto_region 8 with (fail)
   have X2 := (((((X.si 1 true (by omega)).s32 2).s34 false).s33 (t.ct + 1)).alloc (.cells #[.int .i64 1, .int .i64 2, .int .i64 4, .int .i64 8, .int .i64 16] 3))
   have Y2 := (((((Y.other w.heap.size 1 (.bool true) (by omega)).other w.heap.size 32 (.int .i64 2) (by omega)).other w.heap.size 34 (.bool false) (by omega)).other w.heap.size 33 (.int .u32 (t.ct + 1)) (by omega)).alloc (.cells #[.int .i64 1, .int .i64 2, .int .i64 4, .int .i64 8, .int .i64 16] 3))
   have hB2 := (aE ((((hB0.setCell (p := ⟨w.heap.size, 1, none⟩) (by simp) (.bool true)).setCell (p := ⟨w.heap.size, 32, none⟩) (by simp) (.int .i64 2)).setCell (p := ⟨w.heap.size, 34, none⟩) (by simp) (.bool false)).setCell (p := ⟨w.heap.size, 33, none⟩) (by simp) (.int .u32 (t.ct + 1))) (.cells #[.int .i64 1, .int .i64 2, .int .i64 4, .int .i64 8, .int .i64 16] 3))
   clear X Y hB0 x1 x2 x3 x4 f1 f2 f3 f4 hl hl2 hl3 hl4
   generalize (((((W.setCell ⟨w.heap.size, 1, none⟩ (.bool true)).setCell ⟨w.heap.size, 32, none⟩ (.int .i64 2)).setCell ⟨w.heap.size, 34, none⟩ (.bool false)).setCell ⟨w.heap.size, 33, none⟩ (.int .u32 (t.ct + 1))).alloc (.cells #[.int .i64 1, .int .i64 2, .int .i64 4, .int .i64 8, .int .i64 16] 3)) = W2 at *
   have X3 : dR W2 w.heap.size (aO s.ca) s.la s.ct s.qs := by
    exact gI
   clear X2 HP PB HS q n0 n1 h hm
   exact gJ
 . have hu : N = t.ct := by rw [<- hN]; unfold tL; rw [if_neg hm]
   have q : (t.ct != 4294967295) = false := by simp; omega
   subst hu
   clear hN hm
   go_enter func127, ntmps127
   go_upto_region 1 with (fail)
   rw [gT, jW]
   generalize (w.alloc (oU (aO t.ca) t.la t.ct t.qs)).alloc zU = W at *
   have hl := X.lt
   have hl2 : w.heap.size < W.heap.size + 1 := by omega
   have hl3 : w.heap.size < W.heap.size + 1 + 1 := by omega
   have hl4 : w.heap.size < W.heap.size + 1 + 1 + 1 := by omega
   have x1 := X.ci 1 (by omega)
   have x2 := X.c32
   have x3 := X.c33
   have x4 := X.c34
   have f1 := X.free 1
   have f2 := X.free 32
   have f3 := X.free 33
   have f4 := X.free 34
   go_wp2_with fail
   refine wp_loop_rounds 5 ?_
   rw [rounds_succ]
   go_upto_region 8 with (fail)
   have X2 := ((((X.si 1 true (by omega)).s32 2).s34 false).alloc (.cells #[.int .i64 1, .int .i64 2, .int .i64 4, .int .i64 8, .int .i64 16] 3))
   have Y2 := ((((Y.other w.heap.size 1 (.bool true) (by omega)).other w.heap.size 32 (.int .i64 2) (by omega)).other w.heap.size 34 (.bool false) (by omega)).alloc (.cells #[.int .i64 1, .int .i64 2, .int .i64 4, .int .i64 8, .int .i64 16] 3))
   have hB2 := (aE (((hB0.setCell (p := ⟨w.heap.size, 1, none⟩) (by simp) (.bool true)).setCell (p := ⟨w.heap.size, 32, none⟩) (by simp) (.int .i64 2)).setCell (p := ⟨w.heap.size, 34, none⟩) (by simp) (.bool false)) (.cells #[.int .i64 1, .int .i64 2, .int .i64 4, .int .i64 8, .int .i64 16] 3))
   clear X Y hB0 x1 x2 x3 x4 f1 f2 f3 f4 hl hl2 hl3 hl4
   generalize ((((W.setCell ⟨w.heap.size, 1, none⟩ (.bool true)).setCell ⟨w.heap.size, 32, none⟩ (.int .i64 2)).setCell ⟨w.heap.size, 34, none⟩ (.bool false)).alloc (.cells #[.int .i64 1, .int .i64 2, .int .i64 4, .int .i64 8, .int .i64 16] 3)) = W2 at *
   have X3 : dR W2 w.heap.size (aO s.ca) s.la s.ct s.qs := by
    exact gI
   clear X2 HP PB HS q n0 n1 h
   exact gJ
theorem aJE (t : Rs) (w : World) (h : t.ok) : Calls prog 127 #[.agg (ul t).toArray, .int .i64 4] w fun e w' => e = .returned (.tuple #[.agg (ul (t.put 4)).toArray, .bool true]) /\ Below w.heap.size w w' := by
 have hB0 := aE (aE (aI w) (oU (aO t.ca) t.la t.ct t.qs)) zU
 have X : dR ((w.alloc (oU (aO t.ca) t.la t.ct t.qs)).alloc zU) w.heap.size (aO t.ca) t.la t.ct t.qs := bG w _ _
 have Y : dR ((w.alloc (oU (aO t.ca) t.la t.ct t.qs)).alloc zU) (w.heap.size + 1) (fun _ => false) 0 0 false := bL w _ _
 unfold ul
 have n0 := h.c0
 have n1 := h.c1
 have PB := Hd (oY t 2 4 h (by omega) rfl)
 obtain ⟨N, hN⟩ : ∃ N, tL t.ct = N := ⟨_, rfl⟩
 have HP := Hd (show (t.put 4).ct = N from hN)
 obtain ⟨s, hs⟩ : ∃ s, t.put 4 = s := ⟨_, rfl⟩
 rw [hs]
 have HS := Hd hs
 clear hs
 by_cases hm : t.ct < 4294967295
 . have hu : N = t.ct + 1 := by rw [<- hN]; unfold tL; rw [if_pos hm]
   have q : (t.ct != 4294967295) = true := by simp; omega
   subst hu
   clear hN
   go_enter func127, ntmps127
   go_upto_region 1 with (fail)
   rw [gT, jW]
   generalize (w.alloc (oU (aO t.ca) t.la t.ct t.qs)).alloc zU = W at *
   have hl := X.lt
   have hl2 : w.heap.size < W.heap.size + 1 := by omega
   have hl3 : w.heap.size < W.heap.size + 1 + 1 := by omega
   have hl4 : w.heap.size < W.heap.size + 1 + 1 + 1 := by omega
   have x1 := X.ci 2 (by omega)
   have x2 := X.c32
   have x3 := X.c33
   have x4 := X.c34
   have f1 := X.free 2
   have f2 := X.free 32
   have f3 := X.free 33
   have f4 := X.free 34
   go_wp2_with fail
   refine wp_loop_rounds 5 ?_
   rw [rounds_succ]
   go_wp2_with fail
   rw [rounds_succ]
   go_upto_region 8 with (fail)
   have X2 := ((((((X.si 2 true (by omega)).s32 4).s34 false).s33 (t.ct + 1)).alloc (.cells #[.int .i64 1, .int .i64 2, .int .i64 4, .int .i64 8, .int .i64 16] 3)).alloc (.cells #[.int .i64 1, .int .i64 2, .int .i64 4, .int .i64 8, .int .i64 16] 3))
   have Y2 := ((((((Y.other w.heap.size 2 (.bool true) (by omega)).other w.heap.size 32 (.int .i64 4) (by omega)).other w.heap.size 34 (.bool false) (by omega)).other w.heap.size 33 (.int .u32 (t.ct + 1)) (by omega)).alloc (.cells #[.int .i64 1, .int .i64 2, .int .i64 4, .int .i64 8, .int .i64 16] 3)).alloc (.cells #[.int .i64 1, .int .i64 2, .int .i64 4, .int .i64 8, .int .i64 16] 3))
   have hB2 := (aE (aE ((((hB0.setCell (p := ⟨w.heap.size, 2, none⟩) (by simp) (.bool true)).setCell (p := ⟨w.heap.size, 32, none⟩) (by simp) (.int .i64 4)).setCell (p := ⟨w.heap.size, 34, none⟩) (by simp) (.bool false)).setCell (p := ⟨w.heap.size, 33, none⟩) (by simp) (.int .u32 (t.ct + 1))) (.cells #[.int .i64 1, .int .i64 2, .int .i64 4, .int .i64 8, .int .i64 16] 3)) (.cells #[.int .i64 1, .int .i64 2, .int .i64 4, .int .i64 8, .int .i64 16] 3))
   clear X Y hB0 x1 x2 x3 x4 f1 f2 f3 f4 hl hl2 hl3 hl4
   generalize ((((((W.setCell ⟨w.heap.size, 2, none⟩ (.bool true)).setCell ⟨w.heap.size, 32, none⟩ (.int .i64 4)).setCell ⟨w.heap.size, 34, none⟩ (.bool false)).setCell ⟨w.heap.size, 33, none⟩ (.int .u32 (t.ct + 1))).alloc (.cells #[.int .i64 1, .int .i64 2, .int .i64 4, .int .i64 8, .int .i64 16] 3)).alloc (.cells #[.int .i64 1, .int .i64 2, .int .i64 4, .int .i64 8, .int .i64 16] 3)) = W2 at *
   have X3 : dR W2 w.heap.size (aO s.ca) s.la s.ct s.qs := by
    exact gI
   clear X2 HP PB HS q n0 n1 h hm
   exact gJ
 . have hu : N = t.ct := by rw [<- hN]; unfold tL; rw [if_neg hm]
   have q : (t.ct != 4294967295) = false := by simp; omega
   subst hu
   clear hN hm
   go_enter func127, ntmps127
   go_upto_region 1 with (fail)
   rw [gT, jW]
   generalize (w.alloc (oU (aO t.ca) t.la t.ct t.qs)).alloc zU = W at *
   have hl := X.lt
   have hl2 : w.heap.size < W.heap.size + 1 := by omega
   have hl3 : w.heap.size < W.heap.size + 1 + 1 := by omega
   have hl4 : w.heap.size < W.heap.size + 1 + 1 + 1 := by omega
   have x1 := X.ci 2 (by omega)
   have x2 := X.c32
   have x3 := X.c33
   have x4 := X.c34
   have f1 := X.free 2
   have f2 := X.free 32
   have f3 := X.free 33
   have f4 := X.free 34
   go_wp2_with fail
   refine wp_loop_rounds 5 ?_
   rw [rounds_succ]
   go_wp2_with fail
   rw [rounds_succ]
   go_upto_region 8 with (fail)
   have X2 := (((((X.si 2 true (by omega)).s32 4).s34 false).alloc (.cells #[.int .i64 1, .int .i64 2, .int .i64 4, .int .i64 8, .int .i64 16] 3)).alloc (.cells #[.int .i64 1, .int .i64 2, .int .i64 4, .int .i64 8, .int .i64 16] 3))
   have Y2 := (((((Y.other w.heap.size 2 (.bool true) (by omega)).other w.heap.size 32 (.int .i64 4) (by omega)).other w.heap.size 34 (.bool false) (by omega)).alloc (.cells #[.int .i64 1, .int .i64 2, .int .i64 4, .int .i64 8, .int .i64 16] 3)).alloc (.cells #[.int .i64 1, .int .i64 2, .int .i64 4, .int .i64 8, .int .i64 16] 3))
   have hB2 := (aE (aE (((hB0.setCell (p := ⟨w.heap.size, 2, none⟩) (by simp) (.bool true)).setCell (p := ⟨w.heap.size, 32, none⟩) (by simp) (.int .i64 4)).setCell (p := ⟨w.heap.size, 34, none⟩) (by simp) (.bool false)) (.cells #[.int .i64 1, .int .i64 2, .int .i64 4, .int .i64 8, .int .i64 16] 3)) (.cells #[.int .i64 1, .int .i64 2, .int .i64 4, .int .i64 8, .int .i64 16] 3))
   clear X Y hB0 x1 x2 x3 x4 f1 f2 f3 f4 hl hl2 hl3 hl4
   generalize (((((W.setCell ⟨w.heap.size, 2, none⟩ (.bool true)).setCell ⟨w.heap.size, 32, none⟩ (.int .i64 4)).setCell ⟨w.heap.size, 34, none⟩ (.bool false)).alloc (.cells #[.int .i64 1, .int .i64 2, .int .i64 4, .int .i64 8, .int .i64 16] 3)).alloc (.cells #[.int .i64 1, .int .i64 2, .int .i64 4, .int .i64 8, .int .i64 16] 3)) = W2 at *
   have X3 : dR W2 w.heap.size (aO s.ca) s.la s.ct s.qs := by
    exact gI
   clear X2 HP PB HS q n0 n1 h
   exact gJ
theorem aIL (t : Rs) (w : World) (h : t.ok) : Calls prog 127 #[.agg (ul t).toArray, .int .i64 8] w fun e w' => e = .returned (.tuple #[.agg (ul (t.put 8)).toArray, .bool true]) /\ Below w.heap.size w w' := by
 have hB0 := aE (aE (aI w) (oU (aO t.ca) t.la t.ct t.qs)) zU
 have X : dR ((w.alloc (oU (aO t.ca) t.la t.ct t.qs)).alloc zU) w.heap.size (aO t.ca) t.la t.ct t.qs := bG w _ _
 have Y : dR ((w.alloc (oU (aO t.ca) t.la t.ct t.qs)).alloc zU) (w.heap.size + 1) (fun _ => false) 0 0 false := bL w _ _
 unfold ul
 have n0 := h.c0
 have n1 := h.c1
 have PB := Hd (oY t 3 8 h (by omega) rfl)
 obtain ⟨N, hN⟩ : ∃ N, tL t.ct = N := ⟨_, rfl⟩
 have HP := Hd (show (t.put 8).ct = N from hN)
 obtain ⟨s, hs⟩ : ∃ s, t.put 8 = s := ⟨_, rfl⟩
 rw [hs]
 have HS := Hd hs
 clear hs
 by_cases hm : t.ct < 4294967295
 . have hu : N = t.ct + 1 := by rw [<- hN]; unfold tL; rw [if_pos hm]
   have q : (t.ct != 4294967295) = true := by simp; omega
   subst hu
   clear hN
   go_enter func127, ntmps127
   go_upto_region 1 with (fail)
   rw [gT, jW]
   generalize (w.alloc (oU (aO t.ca) t.la t.ct t.qs)).alloc zU = W at *
   have hl := X.lt
   have hl2 : w.heap.size < W.heap.size + 1 := by omega
   have hl3 : w.heap.size < W.heap.size + 1 + 1 := by omega
   have hl4 : w.heap.size < W.heap.size + 1 + 1 + 1 := by omega
   have x1 := X.ci 3 (by omega)
   have x2 := X.c32
   have x3 := X.c33
   have x4 := X.c34
   have f1 := X.free 3
   have f2 := X.free 32
   have f3 := X.free 33
   have f4 := X.free 34
   go_wp2_with fail
   refine wp_loop_rounds 5 ?_
   rw [rounds_succ]
   go_wp2_with fail
   rw [rounds_succ]
   go_wp2_with fail
   rw [rounds_succ]
   go_upto_region 8 with (fail)
   have X2 := (((((((X.si 3 true (by omega)).s32 8).s34 false).s33 (t.ct + 1)).alloc (.cells #[.int .i64 1, .int .i64 2, .int .i64 4, .int .i64 8, .int .i64 16] 3)).alloc (.cells #[.int .i64 1, .int .i64 2, .int .i64 4, .int .i64 8, .int .i64 16] 3)).alloc (.cells #[.int .i64 1, .int .i64 2, .int .i64 4, .int .i64 8, .int .i64 16] 3))
   have Y2 := (((((((Y.other w.heap.size 3 (.bool true) (by omega)).other w.heap.size 32 (.int .i64 8) (by omega)).other w.heap.size 34 (.bool false) (by omega)).other w.heap.size 33 (.int .u32 (t.ct + 1)) (by omega)).alloc (.cells #[.int .i64 1, .int .i64 2, .int .i64 4, .int .i64 8, .int .i64 16] 3)).alloc (.cells #[.int .i64 1, .int .i64 2, .int .i64 4, .int .i64 8, .int .i64 16] 3)).alloc (.cells #[.int .i64 1, .int .i64 2, .int .i64 4, .int .i64 8, .int .i64 16] 3))
   have hB2 := (aE (aE (aE ((((hB0.setCell (p := ⟨w.heap.size, 3, none⟩) (by simp) (.bool true)).setCell (p := ⟨w.heap.size, 32, none⟩) (by simp) (.int .i64 8)).setCell (p := ⟨w.heap.size, 34, none⟩) (by simp) (.bool false)).setCell (p := ⟨w.heap.size, 33, none⟩) (by simp) (.int .u32 (t.ct + 1))) (.cells #[.int .i64 1, .int .i64 2, .int .i64 4, .int .i64 8, .int .i64 16] 3)) (.cells #[.int .i64 1, .int .i64 2, .int .i64 4, .int .i64 8, .int .i64 16] 3)) (.cells #[.int .i64 1, .int .i64 2, .int .i64 4, .int .i64 8, .int .i64 16] 3))
   clear X Y hB0 x1 x2 x3 x4 f1 f2 f3 f4 hl hl2 hl3 hl4
   generalize (((((((W.setCell ⟨w.heap.size, 3, none⟩ (.bool true)).setCell ⟨w.heap.size, 32, none⟩ (.int .i64 8)).setCell ⟨w.heap.size, 34, none⟩ (.bool false)).setCell ⟨w.heap.size, 33, none⟩ (.int .u32 (t.ct + 1))).alloc (.cells #[.int .i64 1, .int .i64 2, .int .i64 4, .int .i64 8, .int .i64 16] 3)).alloc (.cells #[.int .i64 1, .int .i64 2, .int .i64 4, .int .i64 8, .int .i64 16] 3)).alloc (.cells #[.int .i64 1, .int .i64 2, .int .i64 4, .int .i64 8, .int .i64 16] 3)) = W2 at *
   have X3 : dR W2 w.heap.size (aO s.ca) s.la s.ct s.qs := by
    exact gI
   clear X2 HP PB HS q n0 n1 h hm
   exact gJ
 . have hu : N = t.ct := by rw [<- hN]; unfold tL; rw [if_neg hm]
   have q : (t.ct != 4294967295) = false := by simp; omega
   subst hu
   clear hN hm
   go_enter func127, ntmps127
   go_upto_region 1 with (fail)
   rw [gT, jW]
   generalize (w.alloc (oU (aO t.ca) t.la t.ct t.qs)).alloc zU = W at *
   have hl := X.lt
   have hl2 : w.heap.size < W.heap.size + 1 := by omega
   have hl3 : w.heap.size < W.heap.size + 1 + 1 := by omega
   have hl4 : w.heap.size < W.heap.size + 1 + 1 + 1 := by omega
   have x1 := X.ci 3 (by omega)
   have x2 := X.c32
   have x3 := X.c33
   have x4 := X.c34
   have f1 := X.free 3
   have f2 := X.free 32
   have f3 := X.free 33
   have f4 := X.free 34
   go_wp2_with fail
   refine wp_loop_rounds 5 ?_
   rw [rounds_succ]
   go_wp2_with fail
   rw [rounds_succ]
   go_wp2_with fail
   rw [rounds_succ]
   go_upto_region 8 with (fail)
   have X2 := ((((((X.si 3 true (by omega)).s32 8).s34 false).alloc (.cells #[.int .i64 1, .int .i64 2, .int .i64 4, .int .i64 8, .int .i64 16] 3)).alloc (.cells #[.int .i64 1, .int .i64 2, .int .i64 4, .int .i64 8, .int .i64 16] 3)).alloc (.cells #[.int .i64 1, .int .i64 2, .int .i64 4, .int .i64 8, .int .i64 16] 3))
   have Y2 := ((((((Y.other w.heap.size 3 (.bool true) (by omega)).other w.heap.size 32 (.int .i64 8) (by omega)).other w.heap.size 34 (.bool false) (by omega)).alloc (.cells #[.int .i64 1, .int .i64 2, .int .i64 4, .int .i64 8, .int .i64 16] 3)).alloc (.cells #[.int .i64 1, .int .i64 2, .int .i64 4, .int .i64 8, .int .i64 16] 3)).alloc (.cells #[.int .i64 1, .int .i64 2, .int .i64 4, .int .i64 8, .int .i64 16] 3))
   have hB2 := (aE (aE (aE (((hB0.setCell (p := ⟨w.heap.size, 3, none⟩) (by simp) (.bool true)).setCell (p := ⟨w.heap.size, 32, none⟩) (by simp) (.int .i64 8)).setCell (p := ⟨w.heap.size, 34, none⟩) (by simp) (.bool false)) (.cells #[.int .i64 1, .int .i64 2, .int .i64 4, .int .i64 8, .int .i64 16] 3)) (.cells #[.int .i64 1, .int .i64 2, .int .i64 4, .int .i64 8, .int .i64 16] 3)) (.cells #[.int .i64 1, .int .i64 2, .int .i64 4, .int .i64 8, .int .i64 16] 3))
   clear X Y hB0 x1 x2 x3 x4 f1 f2 f3 f4 hl hl2 hl3 hl4
   generalize ((((((W.setCell ⟨w.heap.size, 3, none⟩ (.bool true)).setCell ⟨w.heap.size, 32, none⟩ (.int .i64 8)).setCell ⟨w.heap.size, 34, none⟩ (.bool false)).alloc (.cells #[.int .i64 1, .int .i64 2, .int .i64 4, .int .i64 8, .int .i64 16] 3)).alloc (.cells #[.int .i64 1, .int .i64 2, .int .i64 4, .int .i64 8, .int .i64 16] 3)).alloc (.cells #[.int .i64 1, .int .i64 2, .int .i64 4, .int .i64 8, .int .i64 16] 3)) = W2 at *
   have X3 : dR W2 w.heap.size (aO s.ca) s.la s.ct s.qs := by
    exact gI
   clear X2 HP PB HS q n0 n1 h
   exact gJ
theorem aGa (t : Rs) (w : World) (h : t.ok) : Calls prog 127 #[.agg (ul t).toArray, .int .i64 16] w fun e w' => e = .returned (.tuple #[.agg (ul (t.put 16)).toArray, .bool true]) /\ Below w.heap.size w w' := by
 have hB0 := aE (aE (aI w) (oU (aO t.ca) t.la t.ct t.qs)) zU
 have X : dR ((w.alloc (oU (aO t.ca) t.la t.ct t.qs)).alloc zU) w.heap.size (aO t.ca) t.la t.ct t.qs := bG w _ _
 have Y : dR ((w.alloc (oU (aO t.ca) t.la t.ct t.qs)).alloc zU) (w.heap.size + 1) (fun _ => false) 0 0 false := bL w _ _
 unfold ul
 have n0 := h.c0
 have n1 := h.c1
 have PB := Hd (oY t 4 16 h (by omega) rfl)
 obtain ⟨N, hN⟩ : ∃ N, tL t.ct = N := ⟨_, rfl⟩
 have HP := Hd (show (t.put 16).ct = N from hN)
 obtain ⟨s, hs⟩ : ∃ s, t.put 16 = s := ⟨_, rfl⟩
 rw [hs]
 have HS := Hd hs
 clear hs
 by_cases hm : t.ct < 4294967295
 . have hu : N = t.ct + 1 := by rw [<- hN]; unfold tL; rw [if_pos hm]
   have q : (t.ct != 4294967295) = true := by simp; omega
   subst hu
   clear hN
   go_enter func127, ntmps127
   go_upto_region 1 with (fail)
   rw [gT, jW]
   generalize (w.alloc (oU (aO t.ca) t.la t.ct t.qs)).alloc zU = W at *
   have hl := X.lt
   have hl2 : w.heap.size < W.heap.size + 1 := by omega
   have hl3 : w.heap.size < W.heap.size + 1 + 1 := by omega
   have hl4 : w.heap.size < W.heap.size + 1 + 1 + 1 := by omega
   have x1 := X.ci 4 (by omega)
   have x2 := X.c32
   have x3 := X.c33
   have x4 := X.c34
   have f1 := X.free 4
   have f2 := X.free 32
   have f3 := X.free 33
   have f4 := X.free 34
   go_wp2_with fail
   refine wp_loop_rounds 5 ?_
   rw [rounds_succ]
   go_wp2_with fail
   rw [rounds_succ]
   go_wp2_with fail
   rw [rounds_succ]
   go_wp2_with fail
   rw [rounds_succ]
   go_upto_region 8 with (fail)
   have X2 := ((((((((X.si 4 true (by omega)).s32 16).s34 false).s33 (t.ct + 1)).alloc (.cells #[.int .i64 1, .int .i64 2, .int .i64 4, .int .i64 8, .int .i64 16] 3)).alloc (.cells #[.int .i64 1, .int .i64 2, .int .i64 4, .int .i64 8, .int .i64 16] 3)).alloc (.cells #[.int .i64 1, .int .i64 2, .int .i64 4, .int .i64 8, .int .i64 16] 3)).alloc (.cells #[.int .i64 1, .int .i64 2, .int .i64 4, .int .i64 8, .int .i64 16] 3))
   have Y2 := ((((((((Y.other w.heap.size 4 (.bool true) (by omega)).other w.heap.size 32 (.int .i64 16) (by omega)).other w.heap.size 34 (.bool false) (by omega)).other w.heap.size 33 (.int .u32 (t.ct + 1)) (by omega)).alloc (.cells #[.int .i64 1, .int .i64 2, .int .i64 4, .int .i64 8, .int .i64 16] 3)).alloc (.cells #[.int .i64 1, .int .i64 2, .int .i64 4, .int .i64 8, .int .i64 16] 3)).alloc (.cells #[.int .i64 1, .int .i64 2, .int .i64 4, .int .i64 8, .int .i64 16] 3)).alloc (.cells #[.int .i64 1, .int .i64 2, .int .i64 4, .int .i64 8, .int .i64 16] 3))
   have hB2 := (aE (aE (aE (aE ((((hB0.setCell (p := ⟨w.heap.size, 4, none⟩) (by simp) (.bool true)).setCell (p := ⟨w.heap.size, 32, none⟩) (by simp) (.int .i64 16)).setCell (p := ⟨w.heap.size, 34, none⟩) (by simp) (.bool false)).setCell (p := ⟨w.heap.size, 33, none⟩) (by simp) (.int .u32 (t.ct + 1))) (.cells #[.int .i64 1, .int .i64 2, .int .i64 4, .int .i64 8, .int .i64 16] 3)) (.cells #[.int .i64 1, .int .i64 2, .int .i64 4, .int .i64 8, .int .i64 16] 3)) (.cells #[.int .i64 1, .int .i64 2, .int .i64 4, .int .i64 8, .int .i64 16] 3)) (.cells #[.int .i64 1, .int .i64 2, .int .i64 4, .int .i64 8, .int .i64 16] 3))
   clear X Y hB0 x1 x2 x3 x4 f1 f2 f3 f4 hl hl2 hl3 hl4
   generalize ((((((((W.setCell ⟨w.heap.size, 4, none⟩ (.bool true)).setCell ⟨w.heap.size, 32, none⟩ (.int .i64 16)).setCell ⟨w.heap.size, 34, none⟩ (.bool false)).setCell ⟨w.heap.size, 33, none⟩ (.int .u32 (t.ct + 1))).alloc (.cells #[.int .i64 1, .int .i64 2, .int .i64 4, .int .i64 8, .int .i64 16] 3)).alloc (.cells #[.int .i64 1, .int .i64 2, .int .i64 4, .int .i64 8, .int .i64 16] 3)).alloc (.cells #[.int .i64 1, .int .i64 2, .int .i64 4, .int .i64 8, .int .i64 16] 3)).alloc (.cells #[.int .i64 1, .int .i64 2, .int .i64 4, .int .i64 8, .int .i64 16] 3)) = W2 at *
   have X3 : dR W2 w.heap.size (aO s.ca) s.la s.ct s.qs := by
    exact gI
   clear X2 HP PB HS q n0 n1 h hm
   exact gJ
 . have hu : N = t.ct := by rw [<- hN]; unfold tL; rw [if_neg hm]
   have q : (t.ct != 4294967295) = false := by simp; omega
   subst hu
   clear hN hm
   go_enter func127, ntmps127
   go_upto_region 1 with (fail)
   rw [gT, jW]
   generalize (w.alloc (oU (aO t.ca) t.la t.ct t.qs)).alloc zU = W at *
   have hl := X.lt
   have hl2 : w.heap.size < W.heap.size + 1 := by omega
   have hl3 : w.heap.size < W.heap.size + 1 + 1 := by omega
   have hl4 : w.heap.size < W.heap.size + 1 + 1 + 1 := by omega
   have x1 := X.ci 4 (by omega)
   have x2 := X.c32
   have x3 := X.c33
   have x4 := X.c34
   have f1 := X.free 4
   have f2 := X.free 32
   have f3 := X.free 33
   have f4 := X.free 34
   go_wp2_with fail
   refine wp_loop_rounds 5 ?_
   rw [rounds_succ]
   go_wp2_with fail
   rw [rounds_succ]
   go_wp2_with fail
   rw [rounds_succ]
   go_wp2_with fail
   rw [rounds_succ]
   go_upto_region 8 with (fail)
   have X2 := (((((((X.si 4 true (by omega)).s32 16).s34 false).alloc (.cells #[.int .i64 1, .int .i64 2, .int .i64 4, .int .i64 8, .int .i64 16] 3)).alloc (.cells #[.int .i64 1, .int .i64 2, .int .i64 4, .int .i64 8, .int .i64 16] 3)).alloc (.cells #[.int .i64 1, .int .i64 2, .int .i64 4, .int .i64 8, .int .i64 16] 3)).alloc (.cells #[.int .i64 1, .int .i64 2, .int .i64 4, .int .i64 8, .int .i64 16] 3))
   have Y2 := (((((((Y.other w.heap.size 4 (.bool true) (by omega)).other w.heap.size 32 (.int .i64 16) (by omega)).other w.heap.size 34 (.bool false) (by omega)).alloc (.cells #[.int .i64 1, .int .i64 2, .int .i64 4, .int .i64 8, .int .i64 16] 3)).alloc (.cells #[.int .i64 1, .int .i64 2, .int .i64 4, .int .i64 8, .int .i64 16] 3)).alloc (.cells #[.int .i64 1, .int .i64 2, .int .i64 4, .int .i64 8, .int .i64 16] 3)).alloc (.cells #[.int .i64 1, .int .i64 2, .int .i64 4, .int .i64 8, .int .i64 16] 3))
   have hB2 := (aE (aE (aE (aE (((hB0.setCell (p := ⟨w.heap.size, 4, none⟩) (by simp) (.bool true)).setCell (p := ⟨w.heap.size, 32, none⟩) (by simp) (.int .i64 16)).setCell (p := ⟨w.heap.size, 34, none⟩) (by simp) (.bool false)) (.cells #[.int .i64 1, .int .i64 2, .int .i64 4, .int .i64 8, .int .i64 16] 3)) (.cells #[.int .i64 1, .int .i64 2, .int .i64 4, .int .i64 8, .int .i64 16] 3)) (.cells #[.int .i64 1, .int .i64 2, .int .i64 4, .int .i64 8, .int .i64 16] 3)) (.cells #[.int .i64 1, .int .i64 2, .int .i64 4, .int .i64 8, .int .i64 16] 3))
   clear X Y hB0 x1 x2 x3 x4 f1 f2 f3 f4 hl hl2 hl3 hl4
   generalize (((((((W.setCell ⟨w.heap.size, 4, none⟩ (.bool true)).setCell ⟨w.heap.size, 32, none⟩ (.int .i64 16)).setCell ⟨w.heap.size, 34, none⟩ (.bool false)).alloc (.cells #[.int .i64 1, .int .i64 2, .int .i64 4, .int .i64 8, .int .i64 16] 3)).alloc (.cells #[.int .i64 1, .int .i64 2, .int .i64 4, .int .i64 8, .int .i64 16] 3)).alloc (.cells #[.int .i64 1, .int .i64 2, .int .i64 4, .int .i64 8, .int .i64 16] 3)).alloc (.cells #[.int .i64 1, .int .i64 2, .int .i64 4, .int .i64 8, .int .i64 16] 3)) = W2 at *
   have X3 : dR W2 w.heap.size (aO s.ca) s.la s.ct s.qs := by
    exact gI
   clear X2 HP PB HS q n0 n1 h
   exact gJ
theorem aFY (t : Rs) (c : Int) (w : World) (hc : ¬ pA c) : Calls prog 127 #[.agg (ul t).toArray, .int .i64 c] w fun e w' => e = .returned (.tuple #[.agg (ul t).toArray, .bool false]) /\ Below w.heap.size w w' := by
 have hB0 := aE (aE (aI w) (oU (aO t.ca) t.la t.ct t.qs)) zU
 have X : dR ((w.alloc (oU (aO t.ca) t.la t.ct t.qs)).alloc zU) w.heap.size (aO t.ca) t.la t.ct t.qs := bG w _ _
 have Y : dR ((w.alloc (oU (aO t.ca) t.la t.ct t.qs)).alloc zU) (w.heap.size + 1) (fun _ => false) 0 0 false := bL w _ _
 unfold ul
 have n2 : (c == 2) = false := by unfold pA at hc; simp; omega
 have n4 : (c == 4) = false := by unfold pA at hc; simp; omega
 have n8 : (c == 8) = false := by unfold pA at hc; simp; omega
 have n16 : (c == 16) = false := by unfold pA at hc; simp; omega
 clear hc
 go_enter func127, ntmps127
 go_upto_region 1 with (fail)
 rw [gT, jW]
 generalize (w.alloc (oU (aO t.ca) t.la t.ct t.qs)).alloc zU = W at *
 have hl := X.lt
 go_wp2_with fail
 refine wp_loop_rounds 5 ?_
 rw [rounds_succ]
 go_wp2_with fail
 rw [rounds_succ]
 go_wp2_with fail
 rw [rounds_succ]
 go_wp2_with fail
 rw [rounds_succ]
 go_wp2_with fail
 rw [rounds_succ]
 go_upto_region 9 with (fail)
 have X3 := ((((X.alloc (.cells #[.int .i64 1, .int .i64 2, .int .i64 4, .int .i64 8, .int .i64 16] 3)).alloc (.cells #[.int .i64 1, .int .i64 2, .int .i64 4, .int .i64 8, .int .i64 16] 3)).alloc (.cells #[.int .i64 1, .int .i64 2, .int .i64 4, .int .i64 8, .int .i64 16] 3)).alloc (.cells #[.int .i64 1, .int .i64 2, .int .i64 4, .int .i64 8, .int .i64 16] 3))
 have Y2 := ((((Y.alloc (.cells #[.int .i64 1, .int .i64 2, .int .i64 4, .int .i64 8, .int .i64 16] 3)).alloc (.cells #[.int .i64 1, .int .i64 2, .int .i64 4, .int .i64 8, .int .i64 16] 3)).alloc (.cells #[.int .i64 1, .int .i64 2, .int .i64 4, .int .i64 8, .int .i64 16] 3)).alloc (.cells #[.int .i64 1, .int .i64 2, .int .i64 4, .int .i64 8, .int .i64 16] 3))
 have hB2 := (aE (aE (aE (aE hB0 (.cells #[.int .i64 1, .int .i64 2, .int .i64 4, .int .i64 8, .int .i64 16] 3)) (.cells #[.int .i64 1, .int .i64 2, .int .i64 4, .int .i64 8, .int .i64 16] 3)) (.cells #[.int .i64 1, .int .i64 2, .int .i64 4, .int .i64 8, .int .i64 16] 3)) (.cells #[.int .i64 1, .int .i64 2, .int .i64 4, .int .i64 8, .int .i64 16] 3))
 clear X Y hB0 hl
 generalize ((((W.alloc (.cells #[.int .i64 1, .int .i64 2, .int .i64 4, .int .i64 8, .int .i64 16] 3)).alloc (.cells #[.int .i64 1, .int .i64 2, .int .i64 4, .int .i64 8, .int .i64 16] 3)).alloc (.cells #[.int .i64 1, .int .i64 2, .int .i64 4, .int .i64 8, .int .i64 16] 3)).alloc (.cells #[.int .i64 1, .int .i64 2, .int .i64 4, .int .i64 8, .int .i64 16] 3)) = W2 at *
 have Y3 := dR.row Y2 (aO t.ca) t.la t.ct t.qs
 have hB3 := aB hB2 (sl (aO t.ca) t.la t.ct t.qs).toArray (g := w.heap.size + 1) (by omega)
 go_wp2_with (first | (refine lL rfl (.tmp 2) rfl rfl X3 ?_) | (refine mH rfl (.tmp 4) (.tmp 31) rfl rfl (f := aO t.ca) (la := t.la) (ct := t.ct) (qs := t.qs) rfl Y2 ?_))
 exact bodyPost_ret (tE rfl _ _ _ rfl rfl Y3) rfl ⟨rfl, hB3⟩
theorem aK6 (t : Rs) (c : Int) (w : World) (h : t.ok) : Calls prog 127 #[.agg (ul t).toArray, .int .i64 c] w fun e w' => e = .returned (.tuple #[.agg (ul (t.ltc c)).toArray, .bool (decide (pA c))]) /\ Below w.heap.size w w' := by
 by_cases hc : pA c
 . have e1 : t.ltc c = t.put c := by unfold Rs.ltc; rw [if_pos hc]
   rw [e1, decide_eq_true hc]
   unfold pA at hc
   rcases hc with rfl | rfl | rfl | rfl
   . exact aIo t w h
   . exact aJE t w h
   . exact aIL t w h
   . exact aGa t w h
 . have e1 : t.ltc c = t := by unfold Rs.ltc; rw [if_neg hc]
   rw [e1, decide_eq_false hc]
   exact aFY t c w hc
theorem aJ3 {w : World} {g n cap : Nat} {t : Nat -> Tm} (h : eH w g n cap t) (ok : ∀ i, i < n -> (t i).ok) (n0 : 1 <= n) (n8 : n <= 8) (N : Int) (N0 : 0 <= N) (N1 : N < 18446744073709551616) :
 Calls prog 66 #[.slice (some ⟨g, 0, none⟩) n cap, .int .u64 N] w fun e w' => ∃ g' cap', e = .returned (.slice (some ⟨g', 0, none⟩) n cap') /\ w.heap.size <= g' /\ eH w' g' n cap' (fun i => (t i).tick N) /\ Below w.heap.size w w' := by
 have hcm := h.cm
 have hnc := h.nc
 have hgl := h.lt
 unfold maxLen at hcm
 have OK := Hd ok
 clear ok
 go_enter func66, ntmps66
 go_wp2_with fail
 go_loopw [5, 6] (fun v i wr => ∃ (k : Nat) (V : Value), k <= n /\ i = .int .i64 k /\ v = V /\ kJ wr w.heap.size V k (fun i => (t i).tick N) /\ eH wr g n cap t /\ Below w.heap.size w wr) (fun v i wr => n - (intOf i).toNat)
 case atStart => exact ⟨0, _, by omega, rfl, rfl, aHc _ _ _, h, aI w⟩
 case round =>
  clear h
  obtain ⟨k, V, hk, rfl, rfl, O, H, hB⟩ := hrel
  by_cases hlt : k < n
  . have hin := H.at hlt
    go_wp2_with (refine aDO rfl (.tmp 16) rfl rfl hin ?_)
    refine (aNj (t k) N wr (OK.out k hlt) N0 N1).mono ?_
    rintro e w1 ⟨rfl, hb⟩
    have O1 := O.below hb
    have H1 := H.below hb
    have B1 := tr hB hb
    clear O H hB hb hin
    have O2 := O1.below (aE (aI w1) (oM ((t k).tick N)))
    have H2 := H1.below (aE (aI w1) (oM ((t k).tick N)))
    have B2 := aE B1 (oM ((t k).tick N))
    have Y := aNO w1 ((t k).tick N)
    have hBs := B2.size
    clear O1 H1 B1
    go_wp2_with (first
     | (refine aKv rfl (.tmp 19) rfl rfl ?_)
     | (refine aIC rfl (.tmp 13) (.tmp 20) rfl rfl O2 rfl Y rfl (by omega) hBs ?_; intro v' w3 O3 ho3))
    have hown := fun b hb => O2.block (b := b) hb
    have H3 := H2.off ho3 (fun e => by have := hown g e; have := hgl; omega)
    have B3 := aF.toBelow B2 ho3 (fun b hb e => by have := hown b e; omega) (Nat.le_refl _)
    clear O2 H2 B2 Y ho3 hBs hown
    go_wp2_with fail
    go_roundw
    case rel => exact ⟨k + 1, _, by omega, by go_num, rfl, O3, H3, B3⟩
    case measure => simp [intOf]; omega
  . obtain rfl : k = n := by omega
    obtain ⟨g', cap', rfl, hg', R⟩ := O.rw (by omega)
    go_wp2_with fail
    go_ret
    exact ⟨g', cap', rfl, hg', R, hB⟩
end Go.Proofs.YtpojmmgokgamgaaGreat.B
