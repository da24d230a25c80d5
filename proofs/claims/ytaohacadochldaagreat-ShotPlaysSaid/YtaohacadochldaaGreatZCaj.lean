/- A part of the proof of a law of layer 12: aj. -/
import Derived.Test.YtaohacadochldaaGreatZCai
set_option linter.unusedVariables false
set_option linter.unusedSimpArgs false
set_option maxHeartbeats 12800000
set_option maxRecDepth 100000
namespace Go.Proofs.YtaohacadochldaaGreat.B
open Go.Proofs.Tryz
open Go.ChangeShapes Go.WideShapes Go.RowKit Go.Sort
theorem aIG {t : Rk} (h : t.ok) {n : Int} (n0 : 0 <= n) : t.adv n = if t.div <= t.rest + n % t.div then { t with sec := eF (eF t.sec (n / t.div)) 1, rest := t.rest + n % t.div - t.div } else { t with sec := eF t.sec (n / t.div), rest := t.rest + n % t.div } := by
 obtain ⟨e1, e2⟩ := xR t.rest n t.div h.d0 h.r0 h.r1
 have q := Int.ediv_nonneg n0 (show 0 <= t.div by have := h.d0; omega)
 have s0 := h.s0
 have s1 := h.s1
 unfold Rk.adv
 rw [e1, e2]
 split
 . simp only [Rk.mk.injEq, and_true, true_and]
   rw [mO, mO]; unfold sS; omega
 . simp only [Rk.mk.injEq, and_true, true_and]
   rw [mO]; unfold sS; omega
theorem xC {P : Prop} (h : P := by
 go_wp2_with (first | (refine dF rfl (.tmp 2) rfl rfl X7 ?_) | (refine dF rfl (.tmp 5) rfl rfl Y7 ?_))
 refine (HK.out _).mono ?_
 rintro e W6 ⟨rfl, hb⟩
 have G8 := G7.below hb
 have B8 := tr B7 hb
 have R := bL.row G8 T
 have B9 := aB B8 (kl T).toArray (g := w.heap.size + 1) (by omega)
 clear X7 Y7 G7 B7 hb HK
 go_wp2_with (refine fL rfl (.tmp 4) (.tmp 41) rfl rfl (t := T) rfl G8 ?_)
 refine bodyPost_ret (aHM rfl _ _ rfl R) rfl ⟨rfl, B9⟩
 ) : P := h
theorem aGG (t : Rk) (n : Int) (w : World) (h : t.ok) (n0 : 0 <= n) (n1 : n < 18446744073709551616) :
 Calls prog 79 #[.agg (kl t).toArray, .int .u64 n] w fun e w' => e = .returned (.agg (kl (t.tick n)).toArray) /\ Below w.heap.size w w' := by
 have hB := aE (aE (aH w) (oK t)) zK
 have X : bL ((w.alloc (oK t)).alloc zK) w.heap.size t := bM w _ _
 have G : bL ((w.alloc (oK t)).alloc zK) (w.heap.size + 1) mI := bU w _ _
 have hs : ((w.alloc (oK t)).alloc zK).heap.size = w.heap.size + 2 := aPX w _ _
 have hA := Rk.adv_ok h n0
 have HK := Hd (fun w' => jS t (t.adv n) w' h hA)
 have hw := aIG h n0
 obtain ⟨T, hT⟩ : ∃ T, t.tick n = T := ⟨_, rfl⟩
 rw [hT]
 unfold Rk.tick at hT
 rw [hT] at HK
 obtain ⟨d0, d1, r0, r1, w0, w1, s0, s1, _, _, _, _⟩ := h
 have q0 := Int.ediv_nonneg n0 (show 0 <= t.div by omega)
 have q1 : n / t.div < 18446744073709551616 := Int.lt_of_le_of_lt (Int.ediv_le_self _ n0) n1
 have m0 := Int.emod_nonneg n (show t.div ≠ 0 by omega)
 have m1 := Int.emod_lt_of_pos n (show 0 < t.div by omega)
 have hq : n.tdiv t.div = n / t.div := Int.tdiv_eq_ediv_of_nonneg n0
 have hm : n.tmod t.div = n % t.div := Int.tmod_eq_emod_of_nonneg n0
 obtain ⟨q, hq2⟩ : ∃ q, n / t.div = q := ⟨_, rfl⟩
 obtain ⟨m, hm2⟩ : ∃ m, n % t.div = m := ⟨_, rfl⟩
 rw [hq2] at hq q0 q1 hw
 rw [hm2] at hm m0 m1 hw
 have b0 : 0 <= eF t.sec q /\ eF t.sec q < 18446744073709551616 := by unfold eF; split <;> omega
 have HA := Hd (fun w' => aMh t.sec q w' s0 s1 q0 q1)
 have HA2 := Hd (fun w' => aMh (eF t.sec q) 1 w' b0.1 b0.2 (by omega) (by omega))
 have hne : (t.div == 0) = false := by simp; omega
 clear b0 hA hT hq2 hm2
 obtain ⟨u, hu⟩ : ∃ u, eF t.sec q = u := ⟨_, rfl⟩
 rw [hu] at hw HA HA2
 obtain ⟨u2, hu2⟩ : ∃ u2, eF u 1 = u2 := ⟨_, rfl⟩
 rw [hu2] at hw HA2
 clear hu hu2
 have HW := Hd hw
 have HQ := Hd hq
 have HR := Hd hm
 clear hw hq hm
 go_enter func79, ntmps79
 go_upto_region 1 with (fail)
 rw [eV, dH]
 generalize (w.alloc (oK t)).alloc zK = W at *
 have B2 := aE hB zK
 have X2 := X.below (aE (aH W) zK)
 have G2 := G.below (aE (aH W) zK)
 have Y2 : bL (W.alloc zK) W.heap.size mI := aD W zK
 rw [hs] at Y2
 go_upto_region 2 with (first | (refine dF rfl (.tmp 2) rfl rfl X ?_) | (refine fL rfl (.tmp 5) (.tmp 8) rfl rfl (t := t) rfl (by rw [dH]; first | exact Y2 | exact (hs ▸ Y2)) ?_))
 rw [dH]
 have Y3 := bL.row Y2 t
 have X3 := X2.elseRow (w.heap.size + 2) (kl t).toArray (by omega)
 have G3 := G2.elseRow (w.heap.size + 2) (kl t).toArray (by omega)
 have B3 := aB B2 (kl t).toArray (g := w.heap.size + 2) (by omega)
 clear X G hB hs Y2 X2 G2 B2
 generalize (W.alloc zK).setRow (w.heap.size + 2) (kl t).toArray = W2 at *
 have x0 := X3.c0
 have y3 := Y3.c3
 have f3 := Y3.free 3
 have hl := Y3.lt
 have hg := bC
 have hf := dE
 go_upto_region 3 with (fail)
 refine aM 7 (by kernel_rfl) (by kernel_rfl) ?_
 simp only [List.take_succ_cons, List.take_zero, List.drop_succ_cons, List.drop_zero]
 have HQ2 := HQ.out
 repeat (go_big_quiet_step (first | (go_at_call 137; exact Calls.regrown_of ((HA.out _).mono fun _ _ g => ⟨g.1, g.2 ▸ aH _⟩))))
 refine wpQuiet_nil ?_
 intro _ hw'
 obtain ⟨⟨dq, osq⟩, hw''⟩ := hw'
 subst hw''
 clear HQ2 HA
 have hb2 := below_regrown W2 dq osq
 have X4 := X3.below hb2
 have G4 := G3.below hb2
 have Y4 : bL _ _ { t with sec := u } := (Y3.below hb2).s3 u
 have B4 := (tr B3 hb2).setCell (p := ⟨w.heap.size + 2, 3, none⟩) (by simp) (.int .u64 u)
 have X5 := X4.other (w.heap.size + 2) 3 (.int .u64 u) (by omega)
 have G5 := G4.other (w.heap.size + 2) 3 (.int .u64 u) (by omega)
 have hl2 : w.heap.size + 2 < (grow (redrawn W2 dq) osq).heap.size := (Y3.below hb2).lt
 clear Y3 X3 G3 B3 X4 G4 hb2
 go_upto_region 4 with (fail)
 clear x0 y3 f3 hl hl2 hg hf
 generalize (grow (redrawn W2 dq) osq).setCell ⟨w.heap.size + 2, 3, none⟩ (.int .u64 u) = W3 at *
 have y1 := Y4.c1
 have y3 := Y4.c3
 have hl := Y4.lt
 have hg := bC
 have hwr : IntKind.u64.wrap (t.rest + m) = t.rest + m := IntWalk.u64_in _ (by omega)
 have HR2 := HR.out
 refine wp_region_quiet_below (by kernel_rfl) (by kernel_rfl) ?_
 repeat (go_big_quiet_step (fail))
 refine wpQuiet_nil ?_
 intro _ hw'
 obtain ⟨⟨dq2, osq2⟩, hw''⟩ := hw'
 subst hw''
 clear HR2 hwr y1 y3 hg hl
 have hb2 := below_regrown W3 dq2 osq2
 have X6 := X5.below hb2
 have G6 := G5.below hb2
 have Y6 := Y4.below hb2
 have B6 := tr B4 hb2
 clear X5 G5 Y4 B4 hb2
 generalize grow (redrawn W3 dq2) osq2 = W4 at *
 by_cases hge : t.div <= t.rest + m
 . have hw := HW.out
   rw [if_pos hge] at hw
   rw [hw] at HK
   clear hw HW
   have y3 := Y6.c3
   have f3 := Y6.free 3
   have f1 := Y6.free 1
   have y1 := Y6.c1
   have hlt2 : ¬ t.rest + m - t.div < 0 := by omega
   have Y7 : bL _ _ { t with sec := u2, rest := t.rest + m - t.div } := (Y6.s3 u2).s1 (t.rest + m - t.div)
   have X7 := (X6.other (w.heap.size + 2) 3 (.int .u64 u2) (by omega)).other (w.heap.size + 2) 1 (.int .u32 (t.rest + m - t.div)) (by omega)
   have G7 := (G6.other (w.heap.size + 2) 3 (.int .u64 u2) (by omega)).other (w.heap.size + 2) 1 (.int .u32 (t.rest + m - t.div)) (by omega)
   have B7 := (B6.setCell (p := ⟨w.heap.size + 2, 3, none⟩) (by simp) (.int .u64 u2)).setCell (p := ⟨w.heap.size + 2, 1, none⟩) (by simp) (.int .u32 (t.rest + m - t.div))
   clear X6 G6 Y6 B6
   go_upto_region 9 with (go_at_call 137; refine (HA2.out _).mono ?_; rintro e w' ⟨rfl, rfl⟩)
   clear y1 y3 f3 f1 HA2
   generalize (W4.setCell ⟨w.heap.size + 2, 3, none⟩ (.int .u64 u2)).setCell ⟨w.heap.size + 2, 1, none⟩ (.int .u32 (t.rest + m - t.div)) = W5 at *
   exact xC
 . have hw := HW.out
   rw [if_neg hge] at hw
   rw [hw] at HK
   clear hw HW HA2
   have f1 := Y6.free 1
   have y1 := Y6.c1
   have Y7 : bL _ _ { t with sec := u, rest := t.rest + m } := Y6.s1 (t.rest + m)
   have X7 := X6.other (w.heap.size + 2) 1 (.int .u32 (t.rest + m)) (by omega)
   have G7 := G6.other (w.heap.size + 2) 1 (.int .u32 (t.rest + m)) (by omega)
   have B7 := B6.setCell (p := ⟨w.heap.size + 2, 1, none⟩) (by simp) (.int .u32 (t.rest + m))
   clear X6 G6 Y6 B6
   go_upto_region 9 with (fail)
   clear f1 y1
   generalize W4.setCell ⟨w.heap.size + 2, 1, none⟩ (.int .u32 (t.rest + m)) = W5 at *
   exact xC
theorem yH (x d f : Int) (d0 : 1 <= d) : (sS - f) / d < x ↔ sS < x * d + f := by
 rw [Int.ediv_lt_iff_lt_mul (by omega)]; omega
theorem aOK (t : Rk) (w : World) (h : t.ok) :
 Calls prog 174 #[.agg (kl t).toArray] w fun e w' => e = .returned (.int .u64 t.left) /\ Below w.heap.size w w' := by
 have hB := aE (aH w) (oK t)
 have X : bL (w.alloc (oK t)) w.heap.size t := aD w _
 have HM := Hd (fun w' => aIi t w' h)
 have HA := Hd (fun w' => aCc t w' h)
 obtain ⟨a0, a1⟩ := Rk.alarm_bounds h
 have x6 := X.c6
 by_cases hc : t.en = true /\ t.met = false
 . obtain ⟨hen, hm⟩ := hc
   have hl := aDc hen hm
   have ha : t.sec < t.alarm := by unfold Rk.met at hm; rw [hen] at hm; simpa using hm
   rw [hm] at HM
   rw [hen] at x6
   obtain ⟨L, hL⟩ : ∃ L, t.left = L := ⟨_, rfl⟩
   rw [hL] at hl ⊢
   clear hL
   have HE := Hd hl
   obtain ⟨d0, d1, r0, r1, _, _, s0, s1, _, _, _, _⟩ := h
   clear hl hm hen
   obtain ⟨A, hA⟩ : ∃ A, t.alarm = A := ⟨_, rfl⟩
   rw [hA] at HE HA a0 a1 ha
   clear hA
   go_enter func174, ntmps174
   go_upto_region 1 with (fail)
   rw [eV]
   generalize w.alloc (oK t) = W at *
   go_wp2_with (first | (refine aCh (.tmp 1) rfl rfl rfl X ?_) | (refine dF rfl (.tmp 1) rfl rfl X ?_))
   refine (HM.out _).mono ?_
   rintro e W1 ⟨rfl, hb⟩
   have X1 := X.below hb
   have hB1 := tr hB hb
   clear X hB hb HM x6
   go_upto_region 3 with (fail)
   have x3 := X1.c3
   have hl := X1.lt
   have hg := bC
   have hws : IntKind.u64.wrap (A - t.sec) = A - t.sec := IntWalk.u64_in _ (by omega)
   refine wp_region_quiet_below (by kernel_rfl) (by kernel_rfl) ?_
   repeat (first
    | go_big_quiet_skip
    | (go_big_quiet_want; first
        | (refine aCw (.tmp 1) rfl rfl X1.grown ?_; go_simp; go_big_quiet_on)
        | (go_big_quiet_op; first
            | go_big_quiet_on
            | go_big_quiet_call (first | (go_at_call 170; exact Calls.regrown_of (HA.out _))))))
   refine wpQuiet_nil ?_
   intro _ hw'
   obtain ⟨⟨dq2, osq2⟩, hw''⟩ := hw'
   subst hw''
   clear x3 hg hl hws
   have hb2 := below_regrown W1 dq2 osq2
   have X2 := X1.below hb2
   have hB2 := tr hB1 hb2
   clear X1 hB1 hb2
   generalize grow (redrawn W1 dq2) osq2 = W2 at *
   have x0 := X2.c0
   have x1 := X2.c1
   go_upto_region 6 with (fail)
   have hx := yH (A - t.sec - 1) t.div (t.div - t.rest) d0
   by_cases hov : sS < (A - t.sec - 1) * t.div + (t.div - t.rest)
   . have h1 := hx.2 hov
     unfold sS at h1
     have HE2 := Hd (HE.out.trans (if_pos hov))
     clear hx hov HE
     go_wp2_with fail
     go_ret
     exact ⟨bJ HE2.out.symm, hB2⟩
   . have h1 : ¬ (18446744073709551615 - (t.div - t.rest)) / t.div < A - t.sec - 1 := fun e => hov (hx.1 e)
     have p0 : 0 <= (A - t.sec - 1) * t.div := Int.mul_nonneg (by omega) (by omega)
     have p1 : (A - t.sec - 1) * t.div + (t.div - t.rest) < 18446744073709551616 := by unfold sS at hov; omega
     have p2 : (A - t.sec - 1) * t.div < 18446744073709551616 := by omega
     have HE2 := Hd (HE.out.trans (if_neg hov))
     clear hx hov HE
     go_wp2_with fail
     go_ret
     exact ⟨bJ HE2.out.symm, hB2⟩
 . have hl : t.left = sS := by unfold Rk.left; rw [if_neg hc]
   rw [hl]
   obtain ⟨en, hen⟩ : ∃ en, t.en = en := ⟨_, rfl⟩
   obtain ⟨m, hm⟩ : ∃ m, t.met = m := ⟨_, rfl⟩
   rw [hen, hm] at hc
   rw [hen] at x6
   rw [hm] at HM
   clear hl hen hm HA
   cases en
   . clear hc HM
     go_enter func174, ntmps174
     go_upto_region 1 with (fail)
     rw [eV]
     generalize w.alloc (oK t) = W at *
     go_wp2_with fail
     go_ret
     exact ⟨rfl, hB⟩
   . cases m
     . exact absurd ⟨rfl, rfl⟩ hc
     . clear hc
       go_enter func174, ntmps174
       go_upto_region 1 with (fail)
       rw [eV]
       generalize w.alloc (oK t) = W at *
       go_wp2_with (first | (refine aCh (.tmp 1) rfl rfl rfl X ?_) | (refine dF rfl (.tmp 1) rfl rfl X ?_))
       refine (HM.out _).mono ?_
       rintro e W1 ⟨rfl, hb⟩
       have hB1 := tr hB hb
       clear X hB hb HM x6
       go_wp2_with fail
       go_ret
       exact ⟨rfl, hB1⟩
theorem aM7 (b : Bool) : (tk b == 1) = b := by cases b <;> rfl
theorem iE : (prog.info? 246).map (·.size) = some 7 := by kernel_rfl
def e7 (d r s : Int) (sec a : Int) (en st : Int) : List Value := [.int .u32 d, .int .u32 r, .int .u32 s, .int .u64 sec, .int .u64 a, .int .u32 en, .int .u32 st]
def el (t : Rk) : List Value := e7 t.div t.rest t.set t.sec t.alarm (tk t.en) (tk t.st)
theorem rF {P : Prop} (h : P := by
 rcases h with rfl | rfl | rfl | rfl | rfl | rfl | rfl <;> rfl
 ) : P := h
theorem aLY (d r s sec a en st : Int) : ∀ x ∈ e7 d r s sec a en st, x.oneCell' = true := by
 intro x h
 simp only [e7, List.mem_cons, List.not_mem_nil, or_false] at h
 exact rF
abbrev dK : TypeId := 248
abbrev iQ : TypeId := 246
def dB (w : World) (b : Nat) (T : TypeId) (t : Rk) : Prop := w.heap[b]? = some (.cells (el t).toArray T (0, 0))
section
variable {w w' : World} {b : Nat} {T : TypeId} {t : Rk}
theorem dB.lt (h : dB w b T t) : b < w.heap.size := lt_of_block h
theorem dB.below (h : dB w b T t) (hb : Below w.heap.size w w') : dB w' b T t := aC hb h h.lt
theorem dB.off {S : Nat -> Prop} (h : dB w b T t) (ho : aF S w w') (hs : ¬ S b) : dB w' b T t := ho.at h hs
theorem dB.free (h : dB w b T t) (j : Nat) : w.frozen? ⟨b, j, none⟩ = false := aK h j
theorem dB.c0 (h : dB w b T t) : w.cell? ⟨b, 0, none⟩ = some (.int .u32 t.div) := by rw [aA h 0]; rfl
theorem dB.c1 (h : dB w b T t) : w.cell? ⟨b, 1, none⟩ = some (.int .u32 t.rest) := by rw [aA h 1]; rfl
theorem dB.c2 (h : dB w b T t) : w.cell? ⟨b, 2, none⟩ = some (.int .u32 t.set) := by rw [aA h 2]; rfl
theorem dB.c3 (h : dB w b T t) : w.cell? ⟨b, 3, none⟩ = some (.int .u64 t.sec) := by rw [aA h 3]; rfl
theorem dB.c4 (h : dB w b T t) : w.cell? ⟨b, 4, none⟩ = some (.int .u64 t.alarm) := by rw [aA h 4]; rfl
theorem dB.c5 (h : dB w b T t) : w.cell? ⟨b, 5, none⟩ = some (.int .u32 (tk t.en)) := by rw [aA h 5]; rfl
theorem dB.c6 (h : dB w b T t) : w.cell? ⟨b, 6, none⟩ = some (.int .u32 (tk t.st)) := by rw [aA h 6]; rfl
theorem dB.set (h : dB w b T t) (j : Nat) (x : Value) {s : Rk} (he : (el t).set j x = el s) : dB (w.setCell ⟨b, j, none⟩ x) b T s := by
 unfold dB; rw [aR h, <- he]; simp
theorem dB.s1 (h : dB w b T t) (x : Int) : dB (w.setCell ⟨b, 1, none⟩ (.int .u32 x)) b T { t with rest := x } := h.set _ _ rfl
theorem dB.s2 (h : dB w b T t) (x : Int) : dB (w.setCell ⟨b, 2, none⟩ (.int .u32 x)) b T { t with set := x } := h.set _ _ rfl
theorem dB.s3 (h : dB w b T t) (x : Int) : dB (w.setCell ⟨b, 3, none⟩ (.int .u64 x)) b T { t with sec := x } := h.set _ _ rfl
theorem dB.s4 (h : dB w b T t) (a l : Int) : dB (w.setCell ⟨b, 4, none⟩ (.int .u64 (cZ a l))) b T { t with ah := a, al := l } := h.set _ _ rfl
theorem dB.s5 (h : dB w b T t) (x : Bool) : dB (w.setCell ⟨b, 5, none⟩ (.int .u32 (tk x))) b T { t with en := x } := h.set _ _ rfl
theorem dB.s6 (h : dB w b T t) (x : Bool) : dB (w.setCell ⟨b, 6, none⟩ (.int .u32 (tk x))) b T { t with st := x } := h.set _ _ rfl
theorem dB.other (h : dB w b T t) (k j : Nat) (x : Value) (hne : b ≠ k) : dB (w.setCell ⟨k, j, none⟩ x) b T t := aV h k j x hne
theorem dB.row {old : Array Value} (h : w.heap[b]? = some (.cells old T (0, 0))) (t : Rk) : dB (w.setRow b (el t).toArray) b T t := aY _ h
theorem dB.elseRow (h : dB w b T t) (g : Nat) (cs : Array Value) (hne : b ≠ g) : dB (w.setRow g cs) b T t := eQ g cs h hne
theorem dB.alloc (h : dB w b T t) (o : Obj) : dB (w.alloc o) b T t := (aX w o h.lt).trans h
theorem dB.grown (h : dB w b T t) : ∀ w', (∃ p : Regrown, w' = grow (redrawn w p.d) p.os) -> dB w' b T t := bZ h
end
section
variable {ops : Array Oper} {rest : List Oper} {o : Oper} {a : Act} {w : World} {Q : Exit -> Act -> World -> Prop}
theorem yI (hgd : o.guard = none) (x : Operand) (ho : o.op = .load 246 x) {b : Nat} {T : TypeId} (hx : a.eval x = .pointer (some ⟨b, 0, none⟩)) {t : Rk} (hg : dB w b T t)
 (h : wpList prog ops Q rest (a.put o.dst (.agg (el t).toArray)) w) : wpList prog ops Q (o :: rest) a w :=
 aN hgd _ x ho b 0 hx _ (el t) hg underlying246 rfl iE (aL _) h
theorem aL9 (x : Operand) (ho : o.op = .load 246 x) (hw : Region.wanted o (yielded ops a.tmps) = true) {b : Nat} {T : TypeId} (hx : a.eval x = .pointer (some ⟨b, 0, none⟩)) {t : Rk} (hg : dB w b T t)
 (h : wpList prog ops Q rest (a.put o.dst (.agg (el t).toArray)) w) : wpList prog ops Q (o :: rest) a w :=
 dC _ x ho hw b 0 hx _ (el t) hg underlying246 rfl iE (aL _) h
theorem sC (hgd : o.guard = none) (x y : Operand) (ho : o.op = .store 246 x y) {b : Nat} {T : TypeId} (hx : a.eval x = .pointer (some ⟨b, 0, none⟩)) {t : Rk} (hy : a.eval y = .agg (el t).toArray) {t' : Rk} (hg : dB w b T t')
 (h : wpList prog ops Q rest (a.put o.dst undef) (w.setRow b (el t).toArray)) : wpList prog ops Q (o :: rest) a w := by
 refine aJ hgd _ x y ho b 0 hx (el t) hy hg iE (by simp [el, e7]) (aLY _ _ _ _ _ _ _) ?_
 rw [aW _ _ (by simp [el, e7])]
 exact h
theorem aMe {C : World -> Prop} {K : Act -> Prop} (x : Operand) (ho : o.op = .load 246 x) {b : Nat} {T : TypeId} (hx : a.eval x = .pointer (some ⟨b, 0, none⟩)) {t : Rk} (hg : ∀ w, C w -> dB w b T t)
 (h : K (a.put o.dst (.agg (el t).toArray))) : o.quiet prog a C K :=
 bD _ x ho b 0 hx _ (el t) (fun w hw => hg w hw) underlying246 rfl iE (aL _) h
end
theorem aOs {fn : Func} {p : Tmp} (h : fn.results = #[.cell p 246]) (tmps : Array Value) (w : World) {b : Nat} {T : TypeId} {t : Rk} (hp : tmps[p]? = some (.pointer (some ⟨b, 0, none⟩))) (hg : dB w b T t) :
 (results fn tmps).run prog w = .ok (.agg (el t).toArray) w :=
 aS h tmps w b 0 _ (el t) hp hg underlying246 rfl iE (aL _)
def oE (T : TypeId) (t : Rk) : Obj := .cells (el t).toArray T (0, 0)
theorem aDq (T : TypeId) (t : Rk) : Obj.cells (el t).toArray T (0, 0) = oE T t := rfl
theorem yZ (T : TypeId) : Obj.cells #[.int .u32 0, .int .u32 0, .int .u32 0, .int .u64 0, .int .u64 0, .int .u32 0, .int .u32 0] T (0, 0) = oE T mI := rfl
theorem pB (w : World) (T : TypeId) (t : Rk) : dB (w.alloc (oE T t)) w.heap.size T t := aD w _
theorem aBP (w : World) (p : Nat) (cs : Array Value) : aF (· = p) w (w.setRow p cs) := ⟨rfl, rfl, rfl, by simp, fun k _ hs => setRow_other w p k cs hs⟩
theorem aKF (t : Rk) (w : World) (h : t.ok) : Calls prog 229 #[.agg (el t).toArray] w fun e w' => e = .returned (.bool false) /\ Below w.heap.size w w' := by
 have X := pB w iQ t
 have hb := aE (aH w) (oE iQ t)
 have q : (t.div == 0) = false := by have := h.d0; simp; omega
 clear h
 go_enter func229, ntmps229
 go_upto_region 1 with (fail)
 rw [aDq]
 generalize w.alloc (oE iQ t) = W at *
 have x0 := X.c0
 have x1 := X.c1
 have x2 := X.c2
 have x3 := X.c3
 have x4 := X.c4
 have x5 := X.c5
 have x6 := X.c6
 clear X
 exact bS
theorem tR (t : Rk) (p : Nat) (w : World) (a : dB w p dK t) : Calls prog 191 #[.pointer (some ⟨p, 0, none⟩)] w fun e w' => e = .returned (.agg (el t).toArray) /\ Below w.heap.size w w' := by
 have X := pB w iQ mI
 have A := a.alloc (oE iQ mI)
 have hb := aE (aH w) (oE iQ mI)
 go_enter func191, ntmps191
 go_upto_region 1 with (fail)
 rw [yZ]
 clear a
 generalize w.alloc (oE iQ mI) = W at *
 have Z := dB.row X t
 have hB := aB hb (el t).toArray (g := w.heap.size) (Nat.le_refl _)
 go_wp2_with (first | (refine yI rfl (.tmp 8) rfl rfl A ?_) | (refine sC rfl (.tmp 2) (.tmp 9) rfl rfl (t := t) rfl X ?_))
 exact bodyPost_ret (aOs rfl _ _ rfl Z) rfl ⟨rfl, hB⟩
theorem aIY (t : Rk) (w : World) (h : t.ok) : Calls prog 211 #[.agg (el t).toArray] w fun e w' => e = .returned (.bool t.met) /\ Below w.heap.size w w' := by
 have X := pB w iQ t
 have hb := aE (aH w) (oE iQ t)
 have x3 := X.c3
 have x4 := X.c4
 have x5 := X.c5
 obtain ⟨m, hm⟩ : ∃ m, t.met = m := ⟨_, rfl⟩
 rw [hm]
 unfold Rk.met at hm
 obtain ⟨A, hA⟩ : ∃ A, t.alarm = A := ⟨_, rfl⟩
 rw [hA] at hm x4
 clear hA h
 cases hen : t.en
 all_goals
  rw [hen] at hm x5
  unfold tk at x5
  have hM := Hd hm
  clear hen hm
  go_enter func211, ntmps211
  go_upto_region 1 with (fail)
  rw [aDq]
  generalize w.alloc (oE iQ t) = W at *
  go_wp2_with fail
  go_ret
  exact ⟨cU (by rw [<- hM.out]; simp), hb⟩
theorem aPf (d : Int) (w : World) (d0 : 1 <= d) (d1 : d < 4294967296) : Calls prog 99 #[.int .u32 d] w fun e w' => e = .returned (.tuple #[.pointer (some ⟨w.heap.size, 0, none⟩), .int .i64 0]) /\ w' = w.alloc (oE dK (rk0 d)) := by
 have q : (d == 0) = false := by simp; omega
 have hz : Obj.cells #[.int .u32 d, .int .u32 0, .int .u32 0, .int .u64 0, .int .u64 0, .int .u32 0, .int .u32 0] dK (0, 0) = oE dK (rk0 d) := rfl
 rw [<- hz]
 clear hz
 go_enter func99, ntmps99
 exact nO
theorem nQ {P : Prop} (h : P := by
 simp [Instr.field, Sem.run_bind, run_underlying underlying246, part, ha, asAgg]
 ) : P := h
theorem aPj (d r s sec a en st : Int) (w : World) : (Instr.field 246 (.agg #[.int .u32 d, .int .u32 r, .int .u32 s, .int .u64 sec, .int .u64 a, .int .u32 en, .int .u32 st]) 3).run prog w = .ok (.int .u64 sec) w := by
 have ha : (isAgg 24).run prog w = .ok false w := by kernel_rfl
 exact nQ
theorem aOC (d r s sec a en st : Int) (w : World) : (Instr.field 246 (.agg #[.int .u32 d, .int .u32 r, .int .u32 s, .int .u64 sec, .int .u64 a, .int .u32 en, .int .u32 st]) 1).run prog w = .ok (.int .u32 r) w := by
 have ha : (isAgg 26).run prog w = .ok false w := by kernel_rfl
 exact nQ
theorem aOD (d r s sec a en st : Int) (w : World) : (Instr.field 246 (.agg #[.int .u32 d, .int .u32 r, .int .u32 s, .int .u64 sec, .int .u64 a, .int .u32 en, .int .u32 st]) 4).run prog w = .ok (.int .u64 a) w := by
 have ha : (isAgg 24).run prog w = .ok false w := by kernel_rfl
 exact nQ
theorem aOE (d r s sec a en st : Int) (w : World) : (Instr.field 246 (.agg #[.int .u32 d, .int .u32 r, .int .u32 s, .int .u64 sec, .int .u64 a, .int .u32 en, .int .u32 st]) 6).run prog w = .ok (.int .u32 st) w := by
 have ha : (isAgg 26).run prog w = .ok false w := by kernel_rfl
 exact nQ
theorem aFr (t : Rk) (p : Nat) (w : World) (a : dB w p dK t) : Calls prog 167 #[.pointer (some ⟨p, 0, none⟩)] w fun e w' => e = .returned (.int .u64 t.sec) /\ Below w.heap.size w w' := by
 go_enter func167, ntmps167
 go_wp2_with fail
 refine (tR t p _ a).mono ?_
 rintro e w1 ⟨rfl, hb⟩
 have hf := aPj t.div t.rest t.set t.sec t.alarm (tk t.en) (tk t.st)
 unfold el e7
 exact bS
theorem aN6 (t : Rk) (p : Nat) (w : World) (a : dB w p dK t) : Calls prog 168 #[.pointer (some ⟨p, 0, none⟩)] w fun e w' => e = .returned (.int .u32 t.rest) /\ Below w.heap.size w w' := by
 go_enter func168, ntmps168
 go_wp2_with fail
 refine (tR t p _ a).mono ?_
 rintro e w1 ⟨rfl, hb⟩
 have hf := aOC t.div t.rest t.set t.sec t.alarm (tk t.en) (tk t.st)
 unfold el e7
 exact bS
theorem aLZ (t : Rk) (p : Nat) (w : World) (a : dB w p dK t) : Calls prog 169 #[.pointer (some ⟨p, 0, none⟩)] w fun e w' => e = .returned (.int .u64 t.alarm) /\ Below w.heap.size w w' := by
 go_enter func169, ntmps169
 go_wp2_with fail
 refine (tR t p _ a).mono ?_
 rintro e w1 ⟨rfl, hb⟩
 have hf := aOD t.div t.rest t.set t.sec t.alarm (tk t.en) (tk t.st)
 unfold el e7
 exact bS
theorem aKD (t : Rk) (p : Nat) (w : World) (a : dB w p dK t) : Calls prog 115 #[.pointer (some ⟨p, 0, none⟩)] w fun e w' => e = .returned (.bool t.st) /\ Below w.heap.size w w' := by
 go_enter func115, ntmps115
 go_wp2_with fail
 refine (tR t p _ a).mono ?_
 rintro e w1 ⟨rfl, hb⟩
 have hf := aOE t.div t.rest t.set t.sec t.alarm (tk t.en) (tk t.st)
 unfold el e7
 go_wp2_with fail
 go_ret
 exact ⟨cU (aM7 _), hb⟩
theorem aN5 (t : Rk) (p : Nat) (w : World) (h : t.ok) (a : dB w p dK t) : Calls prog 171 #[.pointer (some ⟨p, 0, none⟩)] w fun e w' => e = .returned (.bool t.met) /\ Below w.heap.size w w' := by
 have M := Hd (fun w => aIY t w h)
 go_enter func171, ntmps171
 go_wp2_with fail
 refine (tR t p _ a).mono ?_
 rintro e w1 ⟨rfl, hb⟩
 go_wp2_with fail
 refine (M.out _).mono ?_
 rintro e w2 ⟨rfl, hb2⟩
 go_wp2_with fail
 go_ret
 exact ⟨rfl, tr hb hb2⟩
theorem aKC (t : Rk) (p : Nat) (w : World) (a : dB w p dK t) : Calls prog 146 #[.pointer (some ⟨p, 0, none⟩)] w fun e w' => e = .returned (.pointer (some ⟨w.heap.size, 0, none⟩)) /\ dB w' w.heap.size dK t /\ Below w.heap.size w w' := by
 have X := pB w dK t
 have hb := aE (aH w) (oE dK t)
 have ha := a.lt
 have x0 := a.c0
 have x1 := a.c1
 have x2 := a.c2
 have x3 := a.c3
 have x4 := a.c4
 have x5 := a.c5
 have x6 := a.c6
 clear a
 go_enter func146, ntmps146
 go_wp2_with fail
 go_ret
 exact ⟨rfl, X, hb⟩
end Go.Proofs.YtaohacadochldaaGreat.B
