/- A part of the proof of a law of layer 12: be. -/
import Derived.Test.YtaohacadochldaaGreatZCba
set_option linter.unusedVariables false
set_option linter.unusedSimpArgs false
set_option maxHeartbeats 12800000
set_option maxRecDepth 100000
namespace Go.Proofs.YtaohacadochldaaGreat.B
open Go.Proofs.Tryz
open Go.ChangeShapes Go.WideShapes Go.RowKit Go.Sort
theorem aKr (t : Wd) (w : World) (h : t.ok) : Calls prog 136 #[.agg (vl t).toArray] w fun e w' => e = .returned (.int .u64 t.left) /\ Below w.heap.size w w' := by
 have hB := aE (aH w) (oV t)
 have X : bX (w.alloc (oV t)) w.heap.size t := aD w (oV t)
 have hrun := h.run
 obtain ⟨c0, c1, t0, t1, s0, s1, _, win, fa, idle⟩ := h
 have x0 := X.c0
 have x4 := X.c4
 have x5 := X.c5
 have x6 := X.c6
 cases hen : t.en
 . rw [hen] at x0
   clear hrun win fa idle
   go_enter func136, ntmps136
   go_upto_region 1 with (fail)
   rw [eH]
   generalize w.alloc (oV t) = W at *
   go_wp2_with fail
   go_ret
   exact ⟨bJ (by unfold Wd.left; rw [if_neg (by rw [hen]; simp)]), hB⟩
 . rw [hen] at x0
   have hr := hrun hen
   by_cases hf : t.fa = 0
   . have q0 : (t.fa != 0) = false := by simp [hf]
     have hlt := hr hf
     clear hrun win fa idle hr
     go_enter func136, ntmps136
     go_upto_region 1 with (fail)
     rw [eH]
     generalize w.alloc (oV t) = W at *
     go_wp2_with fail
     go_ret
     exact ⟨bJ (by unfold Wd.left; rw [if_pos ⟨hen, hf⟩]), hB⟩
   . have q0 : (t.fa != 0) = true := by simp [hf]
     clear hrun win fa idle hr
     go_enter func136, ntmps136
     go_upto_region 1 with (fail)
     rw [eH]
     generalize w.alloc (oV t) = W at *
     go_wp2_with fail
     go_ret
     exact ⟨bJ (by unfold Wd.left; rw [if_neg (fun e => hf e.2)]), hB⟩
theorem aBt (x : Int) (h0 : 18446744073709551616 <= x) (h1 : x < 36893488147419103232) : IntKind.u64.wrap x = x - 18446744073709551616 := by
 simp [IntKind.wrap, IntKind.bits, IntKind.signed]; omega
theorem aKs (t : Wd) (n : Int) (w : World) (h : t.ok) (n0 : 0 <= n) (n1 : n < 18446744073709551616) :
 Calls prog 76 #[.agg (vl t).toArray, .int .u64 n] w fun e w' => e = .returned (.tuple #[.agg (vl (t.tick n)).toArray, .int .u64 (t.ran n)]) /\ Below w.heap.size w w' := by
 have hB := aE (aE (aH w) (oV t)) zV
 have X : bX ((w.alloc (oV t)).alloc zV) w.heap.size t := bM w (oV t) zV
 have Y : bX ((w.alloc (oV t)).alloc zV) (w.heap.size + 1) wz := bU w (oV t) zV
 have HL := Hd (fun w' => aKr t w' h)
 have hrun := h.run
 obtain ⟨c0, c1, t0, t1, s0, s1, _, win, fa, idle⟩ := h
 have x0 := X.c0
 have x6 := X.c6
 clear win fa idle
 by_cases hf : t.fa = 0
 . have q0 : (t.fa != 0) = false := by simp [hf]
   cases hen : t.en
   . rw [hen] at x0
     have e1 : t.tick n = t := by unfold Wd.tick; rw [if_neg (by rw [hen]; simp)]
     have e2 : t.ran n = n := by unfold Wd.ran; rw [if_neg (by simp [hf]), if_neg (by rw [hen]; simp)]
     rw [e1, e2]
     clear hrun HL e1 e2
     go_enter func76, ntmps76
     go_upto_region 1 with (fail)
     rw [eH, fX]
     generalize ((w.alloc (oV t)).alloc zV) = W at *
     have Z := bX.row Y t
     have hB2 := aB hB (vl t).toArray (g := w.heap.size + 1) (by omega)
     go_wp2_with (first | (refine bW rfl (.tmp 2) rfl rfl X ?_) | (refine dW rfl (.tmp 4) (.tmp 14) rfl rfl (t := t) rfl Y ?_))
     refine bodyPost_ret (qH rfl _ _ _ rfl rfl Z) rfl ⟨rfl, hB2⟩
   . rw [hen] at x0
     have hlt := hrun hen hf
     have hleft : t.left = t.tot - t.si := by unfold Wd.left; rw [if_pos ⟨hen, hf⟩]
     rw [hleft] at HL
     have x4 := X.c4
     have x5 := X.c5
     have f5 := X.free 5
     have f6 := X.free 6
     clear hrun hleft
     by_cases hge : t.tot <= t.si + n
     . have e1 : t.tick n = { t with si := t.tot, fa := 2 } := by unfold Wd.tick; rw [if_pos ⟨hen, hf⟩, if_pos hge]
       have e2 : t.ran n = t.tot - t.si := by unfold Wd.ran; rw [if_neg (by simp [hf]), if_pos hen, if_pos hge]
       rw [e1, e2]
       clear e1 e2 hen hf
       by_cases hov : t.si + n < 18446744073709551616
       all_goals
        try have hw := aBt (t.si + n) (by omega) (by omega)
        try have hw2 : t.si + n - 18446744073709551616 < n := by omega
        try have hw3 : ¬ t.tot <= t.si + n - 18446744073709551616 := by omega
        go_enter func76, ntmps76
        go_upto_region 1 with (fail)
        rw [eH, fX]
        generalize ((w.alloc (oV t)).alloc zV) = W at *
        go_wp2_with (refine bW rfl (.tmp 2) rfl rfl X ?_)
        refine (HL.out _).mono ?_
        rintro e W1 ⟨rfl, hb⟩
        have X1 := X.below hb
        have Y1 := Y.below hb
        have hB1 := tr hB hb
        clear X Y hB hb HL x0 x4 x5 x6 f5 f6
        have x4 := X1.c4
        have x5 := X1.c5
        have x6 := X1.c6
        have f5 := X1.free 5
        have f6 := X1.free 6
        have X2 : bX _ _ { t with si := t.tot, fa := 2 } := (X1.s5 t.tot).s6 2
        have Y2 := (Y1.other w.heap.size 5 (.int .u64 t.tot) (by omega)).other w.heap.size 6 (.int .i64 2) (by omega)
        have hB2 := (hB1.setCell (p := ⟨w.heap.size, 5, none⟩) (by simp) (.int .u64 t.tot)).setCell (p := ⟨w.heap.size, 6, none⟩) (by simp) (.int .i64 2)
        clear X1 Y1 hB1
        go_upto_region 8 with (fail)
        generalize ((W1.setCell ⟨w.heap.size, 5, none⟩ (.int .u64 t.tot)).setCell ⟨w.heap.size, 6, none⟩ (.int .i64 2)) = W2 at *
        have Z := bX.row Y2 { t with si := t.tot, fa := 2 }
        have hB3 := aB hB2 (vl { t with si := t.tot, fa := 2 }).toArray (g := w.heap.size + 1) (by omega)
        clear x4 x5 x6 f5 f6
        go_wp2_with (first | (refine bW rfl (.tmp 2) rfl rfl X2 ?_) | (refine dW rfl (.tmp 4) (.tmp 39) rfl rfl (t := { t with si := t.tot, fa := 2 }) rfl Y2 ?_))
        refine bodyPost_ret (qH rfl _ _ _ rfl rfl Z) rfl ⟨rfl, hB3⟩
     . have e1 : t.tick n = { t with si := t.si + n } := by unfold Wd.tick; rw [if_pos ⟨hen, hf⟩, if_neg hge]
       have e2 : t.ran n = n := by unfold Wd.ran; rw [if_neg (by simp [hf]), if_pos hen, if_neg hge]
       rw [e1, e2]
       have hov : t.si + n < 18446744073709551616 := by omega
       have hn : ¬ t.si + n < n := by omega
       clear e1 e2 hen hf HL
       go_enter func76, ntmps76
       go_upto_region 1 with (fail)
       rw [eH, fX]
       generalize ((w.alloc (oV t)).alloc zV) = W at *
       have X2 : bX _ _ { t with si := t.si + n } := X.s5 (t.si + n)
       have Y2 := Y.other w.heap.size 5 (.int .u64 (t.si + n)) (by omega)
       have hB2 := hB.setCell (p := ⟨w.heap.size, 5, none⟩) (by simp) (.int .u64 (t.si + n))
       clear X Y hB
       go_upto_region 10 with (fail)
       generalize (W.setCell ⟨w.heap.size, 5, none⟩ (.int .u64 (t.si + n))) = W2 at *
       have Z := bX.row Y2 { t with si := t.si + n }
       have hB3 := aB hB2 (vl { t with si := t.si + n }).toArray (g := w.heap.size + 1) (by omega)
       clear x0 x4 x5 x6 f5 f6
       go_wp2_with (first | (refine bW rfl (.tmp 2) rfl rfl X2 ?_) | (refine dW rfl (.tmp 4) (.tmp 46) rfl rfl (t := { t with si := t.si + n }) rfl Y2 ?_))
       refine bodyPost_ret (qH rfl _ _ _ rfl rfl Z) rfl ⟨rfl, hB3⟩
 . have q0 : (t.fa != 0) = true := by simp [hf]
   have e1 : t.tick n = t := by unfold Wd.tick; rw [if_neg (fun e => hf e.2)]
   have e2 : t.ran n = 0 := by unfold Wd.ran; rw [if_pos hf]
   rw [e1, e2]
   clear hrun HL e1 e2
   go_enter func76, ntmps76
   go_upto_region 1 with (fail)
   rw [eH, fX]
   generalize ((w.alloc (oV t)).alloc zV) = W at *
   have Z := bX.row Y t
   have hB2 := aB hB (vl t).toArray (g := w.heap.size + 1) (by omega)
   go_wp2_with (first | (refine bW rfl (.tmp 2) rfl rfl X ?_) | (refine dW rfl (.tmp 4) (.tmp 10) rfl rfl (t := t) rfl Y ?_))
   refine bodyPost_ret (qH rfl _ _ _ rfl rfl Z) rfl ⟨rfl, hB2⟩
theorem aFY (f : Nat -> Bool) (w : World) : (Instr.build 35 #[(0, .agg (bl f 32).toArray), (1, .int .i64 1)]).run prog w = .ok (.agg (sl f 1 0 false).toArray) w := by kernel_rfl
theorem aDI {ops : Array Oper} {rest : List Oper} {o : Oper} {a : Act} {w : World} {Q : Exit -> Act -> World -> Prop} (hgd : o.guard = none) (x : Operand) (ho : o.op = .build 35 #[(0, x), (1, .const (.int .i64 1))]) {f : Nat -> Bool} (hx : a.eval x = .agg (bl f 32).toArray)
 (h : wpList prog ops Q rest (a.put o.dst (.agg (sl f 1 0 false).toArray)) w) : wpList prog ops Q (o :: rest) a w :=
 wpList_plain hgd fun _ hK => by
  have hb := aFY f w
  unfold Oper.wp execOp
  have hk : a.eval (.const (.int .i64 1)) = .int .i64 1 := rfl
  simp only [ho, Sem.run_bind, List.map_toArray, List.map_cons, List.map_nil, hx, hk]
  rw [hb]
  exact hK _ _ h
theorem aHn (w : World) : Calls prog 66 #[] w fun e w' => e = .returned (.agg (ul rsN).toArray) /\ Below w.heap.size w w' := by
 have X := aKq w (fun _ => false) 0 0 false
 have hb := aE (aH w) zU
 go_enter func66, ntmps66
 go_wp2_with fail
 rw [kK]
 have X : dS (w.alloc zU) w.heap.size (fun _ => false) 0 0 false := X
 generalize w.alloc zU = W at *
 refine (aHD 1 _ (by omega) (by omega)).mono ?_
 rintro e w1 ⟨rfl, h1⟩
 have X1 := X.below h1
 have hB := tr hb h1
 obtain ⟨f, hf⟩ : ∃ f, aO 1 = f := ⟨_, rfl⟩
 have HF := Hd (show ul rsN = sl f 1 0 false by rw [<- hf]; rfl)
 rw [hf]
 have Z := dS.row X1 f 1 0 false
 have hZ := aB hB (sl f 1 0 false).toArray (g := w.heap.size) (Nat.le_refl _)
 clear X hb h1 hf
 go_wp2_with (first | (refine aDI rfl (.tmp 1) rfl (f := f) rfl ?_) | (refine nG rfl (.tmp 0) (.tmp 2) rfl rfl (f := f) (la := 1) (ct := 0) (qs := false) rfl X1 ?_))
 exact bodyPost_ret (aP7 rfl _ _ rfl Z) rfl ⟨by rw [HF.out], hZ⟩
theorem qG (t : Rs) (k : Nat) (c : Int) (h : t.ok) (hk : k < 32) (hc : c = ((2 ^ k : Nat) : Int)) (i : Nat) : (if i = k then true else aO t.ca i) = aO (t.put c).ca i := by
 subst hc
 exact (aCM t.ca k i h.a0 h.a1 hk).symm
theorem gQ {P : Prop} (h : P := by
 rw [<- HS.out, HP.out]; exact X2.congr fun i _ => PB.out i
 ) : P := h
theorem gT {P : Prop} (h : P := by
 have Y3 := dS.row Y2 (aO s.ca) s.la s.ct s.qs
 have hB3 := aB hB2 (sl (aO s.ca) s.la s.ct s.qs).toArray (g := w.heap.size + 1) (by omega)
 go_wp2_with (first | (refine mH rfl (.tmp 2) rfl rfl X3 ?_) | (refine nG rfl (.tmp 4) (.tmp 30) rfl rfl (f := aO s.ca) (la := s.la) (ct := s.ct) (qs := s.qs) rfl Y2 ?_))
 exact bodyPost_ret (vA rfl _ _ _ rfl rfl Y3) rfl ⟨rfl, hB3⟩
 ) : P := h
theorem aJV (t : Rs) (w : World) (h : t.ok) : Calls prog 140 #[.agg (ul t).toArray, .int .i64 2] w fun e w' => e = .returned (.tuple #[.agg (ul (t.put 2)).toArray, .bool true]) /\ Below w.heap.size w w' := by
 have hB0 := aE (aE (aH w) (oU (aO t.ca) t.la t.ct t.qs)) zU
 have X : dS ((w.alloc (oU (aO t.ca) t.la t.ct t.qs)).alloc zU) w.heap.size (aO t.ca) t.la t.ct t.qs := bM w _ _
 have Y : dS ((w.alloc (oU (aO t.ca) t.la t.ct t.qs)).alloc zU) (w.heap.size + 1) (fun _ => false) 0 0 false := bU w _ _
 unfold ul
 have n0 := h.c0
 have n1 := h.c1
 have PB := Hd (qG t 1 2 h (by omega) rfl)
 obtain ⟨N, hN⟩ : ∃ N, vK t.ct = N := ⟨_, rfl⟩
 have HP := Hd (show (t.put 2).ct = N from hN)
 obtain ⟨s, hs⟩ : ∃ s, t.put 2 = s := ⟨_, rfl⟩
 rw [hs]
 have HS := Hd hs
 clear hs
 by_cases hm : t.ct < 4294967295
 . have hu : N = t.ct + 1 := by rw [<- hN]; unfold vK; rw [if_pos hm]
   have q : (t.ct != 4294967295) = true := by simp; omega
   subst hu
   clear hN
   go_enter func140, ntmps140
   go_upto_region 1 with (fail)
   rw [iJ, kK]
   generalize (w.alloc (oU (aO t.ca) t.la t.ct t.qs)).alloc zU = W at *
   have hl := X.lt
   have hl2 : w.heap.size < W.heap.size + 1 := by omega
   have hl3 : w.heap.size < W.heap.size + 1 + 1 := by omega
   have hl4 : w.heap.size < W.heap.size + 1 + 1 + 1 := by omega
   have x1 := X.ci 1 (by omega)
   have x2 := X.c32
   have x3 := X.c33
   have x4 := X.c34
   have f1 := X.free 1
   have f2 := X.free 32
   have f3 := X.free 33
   have f4 := X.free 34
   go_wp2_with fail
   refine wp_loop_rounds 5 ?_
   rw [rounds_succ]
   go_upto_region 8 with (fail)
   have X2 := (((((X.si 1 true (by omega)).s32 2).s34 false).s33 (t.ct + 1)).alloc (.cells #[.int .i64 1, .int .i64 2, .int .i64 4, .int .i64 8, .int .i64 16] 3))
   have Y2 := (((((Y.other w.heap.size 1 (.bool true) (by omega)).other w.heap.size 32 (.int .i64 2) (by omega)).other w.heap.size 34 (.bool false) (by omega)).other w.heap.size 33 (.int .u32 (t.ct + 1)) (by omega)).alloc (.cells #[.int .i64 1, .int .i64 2, .int .i64 4, .int .i64 8, .int .i64 16] 3))
   have hB2 := (aE ((((hB0.setCell (p := ⟨w.heap.size, 1, none⟩) (by simp) (.bool true)).setCell (p := ⟨w.heap.size, 32, none⟩) (by simp) (.int .i64 2)).setCell (p := ⟨w.heap.size, 34, none⟩) (by simp) (.bool false)).setCell (p := ⟨w.heap.size, 33, none⟩) (by simp) (.int .u32 (t.ct + 1))) (.cells #[.int .i64 1, .int .i64 2, .int .i64 4, .int .i64 8, .int .i64 16] 3))
   clear X Y hB0 x1 x2 x3 x4 f1 f2 f3 f4 hl hl2 hl3 hl4
   generalize (((((W.setCell ⟨w.heap.size, 1, none⟩ (.bool true)).setCell ⟨w.heap.size, 32, none⟩ (.int .i64 2)).setCell ⟨w.heap.size, 34, none⟩ (.bool false)).setCell ⟨w.heap.size, 33, none⟩ (.int .u32 (t.ct + 1))).alloc (.cells #[.int .i64 1, .int .i64 2, .int .i64 4, .int .i64 8, .int .i64 16] 3)) = W2 at *
   have X3 : dS W2 w.heap.size (aO s.ca) s.la s.ct s.qs := by
    exact gQ
   clear X2 HP PB HS q n0 n1 h hm
   exact gT
 . have hu : N = t.ct := by rw [<- hN]; unfold vK; rw [if_neg hm]
   have q : (t.ct != 4294967295) = false := by simp; omega
   subst hu
   clear hN hm
   go_enter func140, ntmps140
   go_upto_region 1 with (fail)
   rw [iJ, kK]
   generalize (w.alloc (oU (aO t.ca) t.la t.ct t.qs)).alloc zU = W at *
   have hl := X.lt
   have hl2 : w.heap.size < W.heap.size + 1 := by omega
   have hl3 : w.heap.size < W.heap.size + 1 + 1 := by omega
   have hl4 : w.heap.size < W.heap.size + 1 + 1 + 1 := by omega
   have x1 := X.ci 1 (by omega)
   have x2 := X.c32
   have x3 := X.c33
   have x4 := X.c34
   have f1 := X.free 1
   have f2 := X.free 32
   have f3 := X.free 33
   have f4 := X.free 34
   go_wp2_with fail
   refine wp_loop_rounds 5 ?_
   rw [rounds_succ]
   go_upto_region 8 with (fail)
   have X2 := ((((X.si 1 true (by omega)).s32 2).s34 false).alloc (.cells #[.int .i64 1, .int .i64 2, .int .i64 4, .int .i64 8, .int .i64 16] 3))
   have Y2 := ((((Y.other w.heap.size 1 (.bool true) (by omega)).other w.heap.size 32 (.int .i64 2) (by omega)).other w.heap.size 34 (.bool false) (by omega)).alloc (.cells #[.int .i64 1, .int .i64 2, .int .i64 4, .int .i64 8, .int .i64 16] 3))
   have hB2 := (aE (((hB0.setCell (p := ⟨w.heap.size, 1, none⟩) (by simp) (.bool true)).setCell (p := ⟨w.heap.size, 32, none⟩) (by simp) (.int .i64 2)).setCell (p := ⟨w.heap.size, 34, none⟩) (by simp) (.bool false)) (.cells #[.int .i64 1, .int .i64 2, .int .i64 4, .int .i64 8, .int .i64 16] 3))
   clear X Y hB0 x1 x2 x3 x4 f1 f2 f3 f4 hl hl2 hl3 hl4
   generalize ((((W.setCell ⟨w.heap.size, 1, none⟩ (.bool true)).setCell ⟨w.heap.size, 32, none⟩ (.int .i64 2)).setCell ⟨w.heap.size, 34, none⟩ (.bool false)).alloc (.cells #[.int .i64 1, .int .i64 2, .int .i64 4, .int .i64 8, .int .i64 16] 3)) = W2 at *
   have X3 : dS W2 w.heap.size (aO s.ca) s.la s.ct s.qs := by
    exact gQ
   clear X2 HP PB HS q n0 n1 h
   exact gT
theorem aJW (t : Rs) (w : World) (h : t.ok) : Calls prog 140 #[.agg (ul t).toArray, .int .i64 4] w fun e w' => e = .returned (.tuple #[.agg (ul (t.put 4)).toArray, .bool true]) /\ Below w.heap.size w w' := by
 have hB0 := aE (aE (aH w) (oU (aO t.ca) t.la t.ct t.qs)) zU
 have X : dS ((w.alloc (oU (aO t.ca) t.la t.ct t.qs)).alloc zU) w.heap.size (aO t.ca) t.la t.ct t.qs := bM w _ _
 have Y : dS ((w.alloc (oU (aO t.ca) t.la t.ct t.qs)).alloc zU) (w.heap.size + 1) (fun _ => false) 0 0 false := bU w _ _
 unfold ul
 have n0 := h.c0
 have n1 := h.c1
 have PB := Hd (qG t 2 4 h (by omega) rfl)
 obtain ⟨N, hN⟩ : ∃ N, vK t.ct = N := ⟨_, rfl⟩
 have HP := Hd (show (t.put 4).ct = N from hN)
 obtain ⟨s, hs⟩ : ∃ s, t.put 4 = s := ⟨_, rfl⟩
 rw [hs]
 have HS := Hd hs
 clear hs
 by_cases hm : t.ct < 4294967295
 . have hu : N = t.ct + 1 := by rw [<- hN]; unfold vK; rw [if_pos hm]
   have q : (t.ct != 4294967295) = true := by simp; omega
   subst hu
   clear hN
   go_enter func140, ntmps140
   go_upto_region 1 with (fail)
   rw [iJ, kK]
   generalize (w.alloc (oU (aO t.ca) t.la t.ct t.qs)).alloc zU = W at *
   have hl := X.lt
   have hl2 : w.heap.size < W.heap.size + 1 := by omega
   have hl3 : w.heap.size < W.heap.size + 1 + 1 := by omega
   have hl4 : w.heap.size < W.heap.size + 1 + 1 + 1 := by omega
   have x1 := X.ci 2 (by omega)
   have x2 := X.c32
   have x3 := X.c33
   have x4 := X.c34
   have f1 := X.free 2
   have f2 := X.free 32
   have f3 := X.free 33
   have f4 := X.free 34
   go_wp2_with fail
   refine wp_loop_rounds 5 ?_
   rw [rounds_succ]
   go_wp2_with fail
   rw [rounds_succ]
   go_upto_region 8 with (fail)
   have X2 := ((((((X.si 2 true (by omega)).s32 4).s34 false).s33 (t.ct + 1)).alloc (.cells #[.int .i64 1, .int .i64 2, .int .i64 4, .int .i64 8, .int .i64 16] 3)).alloc (.cells #[.int .i64 1, .int .i64 2, .int .i64 4, .int .i64 8, .int .i64 16] 3))
   have Y2 := ((((((Y.other w.heap.size 2 (.bool true) (by omega)).other w.heap.size 32 (.int .i64 4) (by omega)).other w.heap.size 34 (.bool false) (by omega)).other w.heap.size 33 (.int .u32 (t.ct + 1)) (by omega)).alloc (.cells #[.int .i64 1, .int .i64 2, .int .i64 4, .int .i64 8, .int .i64 16] 3)).alloc (.cells #[.int .i64 1, .int .i64 2, .int .i64 4, .int .i64 8, .int .i64 16] 3))
   have hB2 := (aE (aE ((((hB0.setCell (p := ⟨w.heap.size, 2, none⟩) (by simp) (.bool true)).setCell (p := ⟨w.heap.size, 32, none⟩) (by simp) (.int .i64 4)).setCell (p := ⟨w.heap.size, 34, none⟩) (by simp) (.bool false)).setCell (p := ⟨w.heap.size, 33, none⟩) (by simp) (.int .u32 (t.ct + 1))) (.cells #[.int .i64 1, .int .i64 2, .int .i64 4, .int .i64 8, .int .i64 16] 3)) (.cells #[.int .i64 1, .int .i64 2, .int .i64 4, .int .i64 8, .int .i64 16] 3))
   clear X Y hB0 x1 x2 x3 x4 f1 f2 f3 f4 hl hl2 hl3 hl4
   generalize ((((((W.setCell ⟨w.heap.size, 2, none⟩ (.bool true)).setCell ⟨w.heap.size, 32, none⟩ (.int .i64 4)).setCell ⟨w.heap.size, 34, none⟩ (.bool false)).setCell ⟨w.heap.size, 33, none⟩ (.int .u32 (t.ct + 1))).alloc (.cells #[.int .i64 1, .int .i64 2, .int .i64 4, .int .i64 8, .int .i64 16] 3)).alloc (.cells #[.int .i64 1, .int .i64 2, .int .i64 4, .int .i64 8, .int .i64 16] 3)) = W2 at *
   have X3 : dS W2 w.heap.size (aO s.ca) s.la s.ct s.qs := by
    exact gQ
   clear X2 HP PB HS q n0 n1 h hm
   exact gT
 . have hu : N = t.ct := by rw [<- hN]; unfold vK; rw [if_neg hm]
   have q : (t.ct != 4294967295) = false := by simp; omega
   subst hu
   clear hN hm
   go_enter func140, ntmps140
   go_upto_region 1 with (fail)
   rw [iJ, kK]
   generalize (w.alloc (oU (aO t.ca) t.la t.ct t.qs)).alloc zU = W at *
   have hl := X.lt
   have hl2 : w.heap.size < W.heap.size + 1 := by omega
   have hl3 : w.heap.size < W.heap.size + 1 + 1 := by omega
   have hl4 : w.heap.size < W.heap.size + 1 + 1 + 1 := by omega
   have x1 := X.ci 2 (by omega)
   have x2 := X.c32
   have x3 := X.c33
   have x4 := X.c34
   have f1 := X.free 2
   have f2 := X.free 32
   have f3 := X.free 33
   have f4 := X.free 34
   go_wp2_with fail
   refine wp_loop_rounds 5 ?_
   rw [rounds_succ]
   go_wp2_with fail
   rw [rounds_succ]
   go_upto_region 8 with (fail)
   have X2 := (((((X.si 2 true (by omega)).s32 4).s34 false).alloc (.cells #[.int .i64 1, .int .i64 2, .int .i64 4, .int .i64 8, .int .i64 16] 3)).alloc (.cells #[.int .i64 1, .int .i64 2, .int .i64 4, .int .i64 8, .int .i64 16] 3))
   have Y2 := (((((Y.other w.heap.size 2 (.bool true) (by omega)).other w.heap.size 32 (.int .i64 4) (by omega)).other w.heap.size 34 (.bool false) (by omega)).alloc (.cells #[.int .i64 1, .int .i64 2, .int .i64 4, .int .i64 8, .int .i64 16] 3)).alloc (.cells #[.int .i64 1, .int .i64 2, .int .i64 4, .int .i64 8, .int .i64 16] 3))
   have hB2 := (aE (aE (((hB0.setCell (p := ⟨w.heap.size, 2, none⟩) (by simp) (.bool true)).setCell (p := ⟨w.heap.size, 32, none⟩) (by simp) (.int .i64 4)).setCell (p := ⟨w.heap.size, 34, none⟩) (by simp) (.bool false)) (.cells #[.int .i64 1, .int .i64 2, .int .i64 4, .int .i64 8, .int .i64 16] 3)) (.cells #[.int .i64 1, .int .i64 2, .int .i64 4, .int .i64 8, .int .i64 16] 3))
   clear X Y hB0 x1 x2 x3 x4 f1 f2 f3 f4 hl hl2 hl3 hl4
   generalize (((((W.setCell ⟨w.heap.size, 2, none⟩ (.bool true)).setCell ⟨w.heap.size, 32, none⟩ (.int .i64 4)).setCell ⟨w.heap.size, 34, none⟩ (.bool false)).alloc (.cells #[.int .i64 1, .int .i64 2, .int .i64 4, .int .i64 8, .int .i64 16] 3)).alloc (.cells #[.int .i64 1, .int .i64 2, .int .i64 4, .int .i64 8, .int .i64 16] 3)) = W2 at *
   have X3 : dS W2 w.heap.size (aO s.ca) s.la s.ct s.qs := by
    exact gQ
   clear X2 HP PB HS q n0 n1 h
   exact gT
theorem aJX (t : Rs) (w : World) (h : t.ok) : Calls prog 140 #[.agg (ul t).toArray, .int .i64 8] w fun e w' => e = .returned (.tuple #[.agg (ul (t.put 8)).toArray, .bool true]) /\ Below w.heap.size w w' := by
 have hB0 := aE (aE (aH w) (oU (aO t.ca) t.la t.ct t.qs)) zU
 have X : dS ((w.alloc (oU (aO t.ca) t.la t.ct t.qs)).alloc zU) w.heap.size (aO t.ca) t.la t.ct t.qs := bM w _ _
 have Y : dS ((w.alloc (oU (aO t.ca) t.la t.ct t.qs)).alloc zU) (w.heap.size + 1) (fun _ => false) 0 0 false := bU w _ _
 unfold ul
 have n0 := h.c0
 have n1 := h.c1
 have PB := Hd (qG t 3 8 h (by omega) rfl)
 obtain ⟨N, hN⟩ : ∃ N, vK t.ct = N := ⟨_, rfl⟩
 have HP := Hd (show (t.put 8).ct = N from hN)
 obtain ⟨s, hs⟩ : ∃ s, t.put 8 = s := ⟨_, rfl⟩
 rw [hs]
 have HS := Hd hs
 clear hs
 by_cases hm : t.ct < 4294967295
 . have hu : N = t.ct + 1 := by rw [<- hN]; unfold vK; rw [if_pos hm]
   have q : (t.ct != 4294967295) = true := by simp; omega
   subst hu
   clear hN
   go_enter func140, ntmps140
   go_upto_region 1 with (fail)
   rw [iJ, kK]
   generalize (w.alloc (oU (aO t.ca) t.la t.ct t.qs)).alloc zU = W at *
   have hl := X.lt
   have hl2 : w.heap.size < W.heap.size + 1 := by omega
   have hl3 : w.heap.size < W.heap.size + 1 + 1 := by omega
   have hl4 : w.heap.size < W.heap.size + 1 + 1 + 1 := by omega
   have x1 := X.ci 3 (by omega)
   have x2 := X.c32
   have x3 := X.c33
   have x4 := X.c34
   have f1 := X.free 3
   have f2 := X.free 32
   have f3 := X.free 33
   have f4 := X.free 34
   go_wp2_with fail
   refine wp_loop_rounds 5 ?_
   rw [rounds_succ]
   go_wp2_with fail
   rw [rounds_succ]
   go_wp2_with fail
   rw [rounds_succ]
   go_upto_region 8 with (fail)
   have X2 := (((((((X.si 3 true (by omega)).s32 8).s34 false).s33 (t.ct + 1)).alloc (.cells #[.int .i64 1, .int .i64 2, .int .i64 4, .int .i64 8, .int .i64 16] 3)).alloc (.cells #[.int .i64 1, .int .i64 2, .int .i64 4, .int .i64 8, .int .i64 16] 3)).alloc (.cells #[.int .i64 1, .int .i64 2, .int .i64 4, .int .i64 8, .int .i64 16] 3))
   have Y2 := (((((((Y.other w.heap.size 3 (.bool true) (by omega)).other w.heap.size 32 (.int .i64 8) (by omega)).other w.heap.size 34 (.bool false) (by omega)).other w.heap.size 33 (.int .u32 (t.ct + 1)) (by omega)).alloc (.cells #[.int .i64 1, .int .i64 2, .int .i64 4, .int .i64 8, .int .i64 16] 3)).alloc (.cells #[.int .i64 1, .int .i64 2, .int .i64 4, .int .i64 8, .int .i64 16] 3)).alloc (.cells #[.int .i64 1, .int .i64 2, .int .i64 4, .int .i64 8, .int .i64 16] 3))
   have hB2 := (aE (aE (aE ((((hB0.setCell (p := ⟨w.heap.size, 3, none⟩) (by simp) (.bool true)).setCell (p := ⟨w.heap.size, 32, none⟩) (by simp) (.int .i64 8)).setCell (p := ⟨w.heap.size, 34, none⟩) (by simp) (.bool false)).setCell (p := ⟨w.heap.size, 33, none⟩) (by simp) (.int .u32 (t.ct + 1))) (.cells #[.int .i64 1, .int .i64 2, .int .i64 4, .int .i64 8, .int .i64 16] 3)) (.cells #[.int .i64 1, .int .i64 2, .int .i64 4, .int .i64 8, .int .i64 16] 3)) (.cells #[.int .i64 1, .int .i64 2, .int .i64 4, .int .i64 8, .int .i64 16] 3))
   clear X Y hB0 x1 x2 x3 x4 f1 f2 f3 f4 hl hl2 hl3 hl4
   generalize (((((((W.setCell ⟨w.heap.size, 3, none⟩ (.bool true)).setCell ⟨w.heap.size, 32, none⟩ (.int .i64 8)).setCell ⟨w.heap.size, 34, none⟩ (.bool false)).setCell ⟨w.heap.size, 33, none⟩ (.int .u32 (t.ct + 1))).alloc (.cells #[.int .i64 1, .int .i64 2, .int .i64 4, .int .i64 8, .int .i64 16] 3)).alloc (.cells #[.int .i64 1, .int .i64 2, .int .i64 4, .int .i64 8, .int .i64 16] 3)).alloc (.cells #[.int .i64 1, .int .i64 2, .int .i64 4, .int .i64 8, .int .i64 16] 3)) = W2 at *
   have X3 : dS W2 w.heap.size (aO s.ca) s.la s.ct s.qs := by
    exact gQ
   clear X2 HP PB HS q n0 n1 h hm
   exact gT
 . have hu : N = t.ct := by rw [<- hN]; unfold vK; rw [if_neg hm]
   have q : (t.ct != 4294967295) = false := by simp; omega
   subst hu
   clear hN hm
   go_enter func140, ntmps140
   go_upto_region 1 with (fail)
   rw [iJ, kK]
   generalize (w.alloc (oU (aO t.ca) t.la t.ct t.qs)).alloc zU = W at *
   have hl := X.lt
   have hl2 : w.heap.size < W.heap.size + 1 := by omega
   have hl3 : w.heap.size < W.heap.size + 1 + 1 := by omega
   have hl4 : w.heap.size < W.heap.size + 1 + 1 + 1 := by omega
   have x1 := X.ci 3 (by omega)
   have x2 := X.c32
   have x3 := X.c33
   have x4 := X.c34
   have f1 := X.free 3
   have f2 := X.free 32
   have f3 := X.free 33
   have f4 := X.free 34
   go_wp2_with fail
   refine wp_loop_rounds 5 ?_
   rw [rounds_succ]
   go_wp2_with fail
   rw [rounds_succ]
   go_wp2_with fail
   rw [rounds_succ]
   go_upto_region 8 with (fail)
   have X2 := ((((((X.si 3 true (by omega)).s32 8).s34 false).alloc (.cells #[.int .i64 1, .int .i64 2, .int .i64 4, .int .i64 8, .int .i64 16] 3)).alloc (.cells #[.int .i64 1, .int .i64 2, .int .i64 4, .int .i64 8, .int .i64 16] 3)).alloc (.cells #[.int .i64 1, .int .i64 2, .int .i64 4, .int .i64 8, .int .i64 16] 3))
   have Y2 := ((((((Y.other w.heap.size 3 (.bool true) (by omega)).other w.heap.size 32 (.int .i64 8) (by omega)).other w.heap.size 34 (.bool false) (by omega)).alloc (.cells #[.int .i64 1, .int .i64 2, .int .i64 4, .int .i64 8, .int .i64 16] 3)).alloc (.cells #[.int .i64 1, .int .i64 2, .int .i64 4, .int .i64 8, .int .i64 16] 3)).alloc (.cells #[.int .i64 1, .int .i64 2, .int .i64 4, .int .i64 8, .int .i64 16] 3))
   have hB2 := (aE (aE (aE (((hB0.setCell (p := ⟨w.heap.size, 3, none⟩) (by simp) (.bool true)).setCell (p := ⟨w.heap.size, 32, none⟩) (by simp) (.int .i64 8)).setCell (p := ⟨w.heap.size, 34, none⟩) (by simp) (.bool false)) (.cells #[.int .i64 1, .int .i64 2, .int .i64 4, .int .i64 8, .int .i64 16] 3)) (.cells #[.int .i64 1, .int .i64 2, .int .i64 4, .int .i64 8, .int .i64 16] 3)) (.cells #[.int .i64 1, .int .i64 2, .int .i64 4, .int .i64 8, .int .i64 16] 3))
   clear X Y hB0 x1 x2 x3 x4 f1 f2 f3 f4 hl hl2 hl3 hl4
   generalize ((((((W.setCell ⟨w.heap.size, 3, none⟩ (.bool true)).setCell ⟨w.heap.size, 32, none⟩ (.int .i64 8)).setCell ⟨w.heap.size, 34, none⟩ (.bool false)).alloc (.cells #[.int .i64 1, .int .i64 2, .int .i64 4, .int .i64 8, .int .i64 16] 3)).alloc (.cells #[.int .i64 1, .int .i64 2, .int .i64 4, .int .i64 8, .int .i64 16] 3)).alloc (.cells #[.int .i64 1, .int .i64 2, .int .i64 4, .int .i64 8, .int .i64 16] 3)) = W2 at *
   have X3 : dS W2 w.heap.size (aO s.ca) s.la s.ct s.qs := by
    exact gQ
   clear X2 HP PB HS q n0 n1 h
   exact gT
theorem aHq (t : Rs) (w : World) (h : t.ok) : Calls prog 140 #[.agg (ul t).toArray, .int .i64 16] w fun e w' => e = .returned (.tuple #[.agg (ul (t.put 16)).toArray, .bool true]) /\ Below w.heap.size w w' := by
 have hB0 := aE (aE (aH w) (oU (aO t.ca) t.la t.ct t.qs)) zU
 have X : dS ((w.alloc (oU (aO t.ca) t.la t.ct t.qs)).alloc zU) w.heap.size (aO t.ca) t.la t.ct t.qs := bM w _ _
 have Y : dS ((w.alloc (oU (aO t.ca) t.la t.ct t.qs)).alloc zU) (w.heap.size + 1) (fun _ => false) 0 0 false := bU w _ _
 unfold ul
 have n0 := h.c0
 have n1 := h.c1
 have PB := Hd (qG t 4 16 h (by omega) rfl)
 obtain ⟨N, hN⟩ : ∃ N, vK t.ct = N := ⟨_, rfl⟩
 have HP := Hd (show (t.put 16).ct = N from hN)
 obtain ⟨s, hs⟩ : ∃ s, t.put 16 = s := ⟨_, rfl⟩
 rw [hs]
 have HS := Hd hs
 clear hs
 by_cases hm : t.ct < 4294967295
 . have hu : N = t.ct + 1 := by rw [<- hN]; unfold vK; rw [if_pos hm]
   have q : (t.ct != 4294967295) = true := by simp; omega
   subst hu
   clear hN
   go_enter func140, ntmps140
   go_upto_region 1 with (fail)
   rw [iJ, kK]
   generalize (w.alloc (oU (aO t.ca) t.la t.ct t.qs)).alloc zU = W at *
   have hl := X.lt
   have hl2 : w.heap.size < W.heap.size + 1 := by omega
   have hl3 : w.heap.size < W.heap.size + 1 + 1 := by omega
   have hl4 : w.heap.size < W.heap.size + 1 + 1 + 1 := by omega
   have x1 := X.ci 4 (by omega)
   have x2 := X.c32
   have x3 := X.c33
   have x4 := X.c34
   have f1 := X.free 4
   have f2 := X.free 32
   have f3 := X.free 33
   have f4 := X.free 34
   go_wp2_with fail
   refine wp_loop_rounds 5 ?_
   rw [rounds_succ]
   go_wp2_with fail
   rw [rounds_succ]
   go_wp2_with fail
   rw [rounds_succ]
   go_wp2_with fail
   rw [rounds_succ]
   go_upto_region 8 with (fail)
   have X2 := ((((((((X.si 4 true (by omega)).s32 16).s34 false).s33 (t.ct + 1)).alloc (.cells #[.int .i64 1, .int .i64 2, .int .i64 4, .int .i64 8, .int .i64 16] 3)).alloc (.cells #[.int .i64 1, .int .i64 2, .int .i64 4, .int .i64 8, .int .i64 16] 3)).alloc (.cells #[.int .i64 1, .int .i64 2, .int .i64 4, .int .i64 8, .int .i64 16] 3)).alloc (.cells #[.int .i64 1, .int .i64 2, .int .i64 4, .int .i64 8, .int .i64 16] 3))
   have Y2 := ((((((((Y.other w.heap.size 4 (.bool true) (by omega)).other w.heap.size 32 (.int .i64 16) (by omega)).other w.heap.size 34 (.bool false) (by omega)).other w.heap.size 33 (.int .u32 (t.ct + 1)) (by omega)).alloc (.cells #[.int .i64 1, .int .i64 2, .int .i64 4, .int .i64 8, .int .i64 16] 3)).alloc (.cells #[.int .i64 1, .int .i64 2, .int .i64 4, .int .i64 8, .int .i64 16] 3)).alloc (.cells #[.int .i64 1, .int .i64 2, .int .i64 4, .int .i64 8, .int .i64 16] 3)).alloc (.cells #[.int .i64 1, .int .i64 2, .int .i64 4, .int .i64 8, .int .i64 16] 3))
   have hB2 := (aE (aE (aE (aE ((((hB0.setCell (p := ⟨w.heap.size, 4, none⟩) (by simp) (.bool true)).setCell (p := ⟨w.heap.size, 32, none⟩) (by simp) (.int .i64 16)).setCell (p := ⟨w.heap.size, 34, none⟩) (by simp) (.bool false)).setCell (p := ⟨w.heap.size, 33, none⟩) (by simp) (.int .u32 (t.ct + 1))) (.cells #[.int .i64 1, .int .i64 2, .int .i64 4, .int .i64 8, .int .i64 16] 3)) (.cells #[.int .i64 1, .int .i64 2, .int .i64 4, .int .i64 8, .int .i64 16] 3)) (.cells #[.int .i64 1, .int .i64 2, .int .i64 4, .int .i64 8, .int .i64 16] 3)) (.cells #[.int .i64 1, .int .i64 2, .int .i64 4, .int .i64 8, .int .i64 16] 3))
   clear X Y hB0 x1 x2 x3 x4 f1 f2 f3 f4 hl hl2 hl3 hl4
   generalize ((((((((W.setCell ⟨w.heap.size, 4, none⟩ (.bool true)).setCell ⟨w.heap.size, 32, none⟩ (.int .i64 16)).setCell ⟨w.heap.size, 34, none⟩ (.bool false)).setCell ⟨w.heap.size, 33, none⟩ (.int .u32 (t.ct + 1))).alloc (.cells #[.int .i64 1, .int .i64 2, .int .i64 4, .int .i64 8, .int .i64 16] 3)).alloc (.cells #[.int .i64 1, .int .i64 2, .int .i64 4, .int .i64 8, .int .i64 16] 3)).alloc (.cells #[.int .i64 1, .int .i64 2, .int .i64 4, .int .i64 8, .int .i64 16] 3)).alloc (.cells #[.int .i64 1, .int .i64 2, .int .i64 4, .int .i64 8, .int .i64 16] 3)) = W2 at *
   have X3 : dS W2 w.heap.size (aO s.ca) s.la s.ct s.qs := by
    exact gQ
   clear X2 HP PB HS q n0 n1 h hm
   exact gT
 . have hu : N = t.ct := by rw [<- hN]; unfold vK; rw [if_neg hm]
   have q : (t.ct != 4294967295) = false := by simp; omega
   subst hu
   clear hN hm
   go_enter func140, ntmps140
   go_upto_region 1 with (fail)
   rw [iJ, kK]
   generalize (w.alloc (oU (aO t.ca) t.la t.ct t.qs)).alloc zU = W at *
   have hl := X.lt
   have hl2 : w.heap.size < W.heap.size + 1 := by omega
   have hl3 : w.heap.size < W.heap.size + 1 + 1 := by omega
   have hl4 : w.heap.size < W.heap.size + 1 + 1 + 1 := by omega
   have x1 := X.ci 4 (by omega)
   have x2 := X.c32
   have x3 := X.c33
   have x4 := X.c34
   have f1 := X.free 4
   have f2 := X.free 32
   have f3 := X.free 33
   have f4 := X.free 34
   go_wp2_with fail
   refine wp_loop_rounds 5 ?_
   rw [rounds_succ]
   go_wp2_with fail
   rw [rounds_succ]
   go_wp2_with fail
   rw [rounds_succ]
   go_wp2_with fail
   rw [rounds_succ]
   go_upto_region 8 with (fail)
   have X2 := (((((((X.si 4 true (by omega)).s32 16).s34 false).alloc (.cells #[.int .i64 1, .int .i64 2, .int .i64 4, .int .i64 8, .int .i64 16] 3)).alloc (.cells #[.int .i64 1, .int .i64 2, .int .i64 4, .int .i64 8, .int .i64 16] 3)).alloc (.cells #[.int .i64 1, .int .i64 2, .int .i64 4, .int .i64 8, .int .i64 16] 3)).alloc (.cells #[.int .i64 1, .int .i64 2, .int .i64 4, .int .i64 8, .int .i64 16] 3))
   have Y2 := (((((((Y.other w.heap.size 4 (.bool true) (by omega)).other w.heap.size 32 (.int .i64 16) (by omega)).other w.heap.size 34 (.bool false) (by omega)).alloc (.cells #[.int .i64 1, .int .i64 2, .int .i64 4, .int .i64 8, .int .i64 16] 3)).alloc (.cells #[.int .i64 1, .int .i64 2, .int .i64 4, .int .i64 8, .int .i64 16] 3)).alloc (.cells #[.int .i64 1, .int .i64 2, .int .i64 4, .int .i64 8, .int .i64 16] 3)).alloc (.cells #[.int .i64 1, .int .i64 2, .int .i64 4, .int .i64 8, .int .i64 16] 3))
   have hB2 := (aE (aE (aE (aE (((hB0.setCell (p := ⟨w.heap.size, 4, none⟩) (by simp) (.bool true)).setCell (p := ⟨w.heap.size, 32, none⟩) (by simp) (.int .i64 16)).setCell (p := ⟨w.heap.size, 34, none⟩) (by simp) (.bool false)) (.cells #[.int .i64 1, .int .i64 2, .int .i64 4, .int .i64 8, .int .i64 16] 3)) (.cells #[.int .i64 1, .int .i64 2, .int .i64 4, .int .i64 8, .int .i64 16] 3)) (.cells #[.int .i64 1, .int .i64 2, .int .i64 4, .int .i64 8, .int .i64 16] 3)) (.cells #[.int .i64 1, .int .i64 2, .int .i64 4, .int .i64 8, .int .i64 16] 3))
   clear X Y hB0 x1 x2 x3 x4 f1 f2 f3 f4 hl hl2 hl3 hl4
   generalize (((((((W.setCell ⟨w.heap.size, 4, none⟩ (.bool true)).setCell ⟨w.heap.size, 32, none⟩ (.int .i64 16)).setCell ⟨w.heap.size, 34, none⟩ (.bool false)).alloc (.cells #[.int .i64 1, .int .i64 2, .int .i64 4, .int .i64 8, .int .i64 16] 3)).alloc (.cells #[.int .i64 1, .int .i64 2, .int .i64 4, .int .i64 8, .int .i64 16] 3)).alloc (.cells #[.int .i64 1, .int .i64 2, .int .i64 4, .int .i64 8, .int .i64 16] 3)).alloc (.cells #[.int .i64 1, .int .i64 2, .int .i64 4, .int .i64 8, .int .i64 16] 3)) = W2 at *
   have X3 : dS W2 w.heap.size (aO s.ca) s.la s.ct s.qs := by
    exact gQ
   clear X2 HP PB HS q n0 n1 h
   exact gT
theorem aHr (t : Rs) (c : Int) (w : World) (hc : ¬ pY c) : Calls prog 140 #[.agg (ul t).toArray, .int .i64 c] w fun e w' => e = .returned (.tuple #[.agg (ul t).toArray, .bool false]) /\ Below w.heap.size w w' := by
 have hB0 := aE (aE (aH w) (oU (aO t.ca) t.la t.ct t.qs)) zU
 have X : dS ((w.alloc (oU (aO t.ca) t.la t.ct t.qs)).alloc zU) w.heap.size (aO t.ca) t.la t.ct t.qs := bM w _ _
 have Y : dS ((w.alloc (oU (aO t.ca) t.la t.ct t.qs)).alloc zU) (w.heap.size + 1) (fun _ => false) 0 0 false := bU w _ _
 unfold ul
 have n2 : (c == 2) = false := by unfold pY at hc; simp; omega
 have n4 : (c == 4) = false := by unfold pY at hc; simp; omega
 have n8 : (c == 8) = false := by unfold pY at hc; simp; omega
 have n16 : (c == 16) = false := by unfold pY at hc; simp; omega
 clear hc
 go_enter func140, ntmps140
 go_upto_region 1 with (fail)
 rw [iJ, kK]
 generalize (w.alloc (oU (aO t.ca) t.la t.ct t.qs)).alloc zU = W at *
 have hl := X.lt
 go_wp2_with fail
 refine wp_loop_rounds 5 ?_
 rw [rounds_succ]
 go_wp2_with fail
 rw [rounds_succ]
 go_wp2_with fail
 rw [rounds_succ]
 go_wp2_with fail
 rw [rounds_succ]
 go_wp2_with fail
 rw [rounds_succ]
 go_upto_region 9 with (fail)
 have X3 := ((((X.alloc (.cells #[.int .i64 1, .int .i64 2, .int .i64 4, .int .i64 8, .int .i64 16] 3)).alloc (.cells #[.int .i64 1, .int .i64 2, .int .i64 4, .int .i64 8, .int .i64 16] 3)).alloc (.cells #[.int .i64 1, .int .i64 2, .int .i64 4, .int .i64 8, .int .i64 16] 3)).alloc (.cells #[.int .i64 1, .int .i64 2, .int .i64 4, .int .i64 8, .int .i64 16] 3))
 have Y2 := ((((Y.alloc (.cells #[.int .i64 1, .int .i64 2, .int .i64 4, .int .i64 8, .int .i64 16] 3)).alloc (.cells #[.int .i64 1, .int .i64 2, .int .i64 4, .int .i64 8, .int .i64 16] 3)).alloc (.cells #[.int .i64 1, .int .i64 2, .int .i64 4, .int .i64 8, .int .i64 16] 3)).alloc (.cells #[.int .i64 1, .int .i64 2, .int .i64 4, .int .i64 8, .int .i64 16] 3))
 have hB2 := (aE (aE (aE (aE hB0 (.cells #[.int .i64 1, .int .i64 2, .int .i64 4, .int .i64 8, .int .i64 16] 3)) (.cells #[.int .i64 1, .int .i64 2, .int .i64 4, .int .i64 8, .int .i64 16] 3)) (.cells #[.int .i64 1, .int .i64 2, .int .i64 4, .int .i64 8, .int .i64 16] 3)) (.cells #[.int .i64 1, .int .i64 2, .int .i64 4, .int .i64 8, .int .i64 16] 3))
 clear X Y hB0 hl
 generalize ((((W.alloc (.cells #[.int .i64 1, .int .i64 2, .int .i64 4, .int .i64 8, .int .i64 16] 3)).alloc (.cells #[.int .i64 1, .int .i64 2, .int .i64 4, .int .i64 8, .int .i64 16] 3)).alloc (.cells #[.int .i64 1, .int .i64 2, .int .i64 4, .int .i64 8, .int .i64 16] 3)).alloc (.cells #[.int .i64 1, .int .i64 2, .int .i64 4, .int .i64 8, .int .i64 16] 3)) = W2 at *
 have Y3 := dS.row Y2 (aO t.ca) t.la t.ct t.qs
 have hB3 := aB hB2 (sl (aO t.ca) t.la t.ct t.qs).toArray (g := w.heap.size + 1) (by omega)
 go_wp2_with (first | (refine mH rfl (.tmp 2) rfl rfl X3 ?_) | (refine nG rfl (.tmp 4) (.tmp 31) rfl rfl (f := aO t.ca) (la := t.la) (ct := t.ct) (qs := t.qs) rfl Y2 ?_))
 exact bodyPost_ret (vA rfl _ _ _ rfl rfl Y3) rfl ⟨rfl, hB3⟩
theorem aNB (t : Rs) (c : Int) (w : World) (h : t.ok) : Calls prog 140 #[.agg (ul t).toArray, .int .i64 c] w fun e w' => e = .returned (.tuple #[.agg (ul (t.ltc c)).toArray, .bool (decide (pY c))]) /\ Below w.heap.size w w' := by
 by_cases hc : pY c
 . have e1 : t.ltc c = t.put c := by unfold Rs.ltc; rw [if_pos hc]
   rw [e1, decide_eq_true hc]
   unfold pY at hc
   rcases hc with rfl | rfl | rfl | rfl
   . exact aJV t w h
   . exact aJW t w h
   . exact aJX t w h
   . exact aHq t w h
 . have e1 : t.ltc c = t := by unfold Rs.ltc; rw [if_neg hc]
   rw [e1, decide_eq_false hc]
   exact aHr t c w hc
end Go.Proofs.YtaohacadochldaaGreat.B
