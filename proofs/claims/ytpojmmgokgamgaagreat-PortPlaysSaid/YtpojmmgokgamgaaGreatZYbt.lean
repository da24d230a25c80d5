/- A part of the proof of a law of layer 12: bt. -/
import Derived.Test.YtpojmmgokgamgaaGreatZYbs
set_option linter.unusedVariables false
set_option linter.unusedSimpArgs false
set_option maxHeartbeats 12800000
set_option maxRecDepth 100000
namespace Go.Proofs.YtpojmmgokgamgaaGreat.B
open Go.Proofs.Tryz
open Go.ChangeShapes Go.WideShapes Go.RowKit Go.Sort
structure aCi (w0 w : World) (p q : Nat) (B : Bp) (x : Bx) (bk ev v : Value) : Prop where
 b : bC w B x
 h : eR w p B.n x bk ev
 m : MV w B.c x bk ev
 l : rK w q (fH B.n B.c x) (aO x.msk)
 v : gC w tEv v x.es
 lo : Below w0.heap.size w0 w
theorem aCi.below {w0 w w' : World} {p q : Nat} {B : Bp} {x : Bx} {bk ev v : Value} (A : aCi w0 w p q B x bk ev v) (hb : Below w.heap.size w w') : aCi w0 w' p q B x bk ev v :=
 ⟨A.b.below hb, A.h.below hb, A.m.below hb, A.l.below hb, A.v.below hb, tr A.lo hb⟩
theorem eR.grown {w : World} {b n : Nat} {x : Bx} {bk ev : Value} (h : eR w b n x bk ev) : ∀ w', (∃ p : Regrown, w' = grow (redrawn w p.d) p.os) -> eR w' b n x bk ev := cV h
theorem oW {w : World} {T : TypeId} {v : Value} {es : List (Int × Int)} (h : gC w T v es) : ∃ y cap, v = .slice y es.length cap /\ (es.length = 0 \/ ∃ g, y = some ⟨g, 0, none⟩ /\ g < w.heap.size) := by
 rcases fR h with ⟨h1, h2⟩ | ⟨g, cap, h1, _, _, hl, _⟩
 . exact ⟨none, 0, by rw [h1, h2], .inl h2⟩
 . exact ⟨_, cap, h1, .inr ⟨g, rfl, hl⟩⟩
theorem aJK {w : World} {T : TypeId} {g cap : Nat} {es : List (Int × Int)} (h : gC w T (.slice (some ⟨g, 0, none⟩) es.length cap) es) (k : Nat) (e : Int × Int) (hk : es[k]? = some e) :
 w.cell? ⟨g, k * 2, none⟩ = some (.int .u64 e.1) /\ w.cell? ⟨g, k * 2 + 1, none⟩ = some (.int .i64 e.2) := by
 have h0 := tR h (k * 2 + 0) _ (by rw [oL yM 2 nG es k 0 e hk (by decide)]; rfl)
 have h1 := tR h (k * 2 + 1) _ (by rw [oL yM 2 nG es k 1 e hk (by decide)]; rfl)
 rw [Addr.add_lit, Nat.zero_add] at h0 h1
 exact ⟨h0, h1⟩
section
variable {P : Program}
theorem kI {o : Oper} {f : Operand -> Value} {w : World} (ty : TypeId) (x : Operand) (ho : o.op = .load ty x)
 (g off : Nat) (hx : f x = .pointer (some ⟨g, off, none⟩)) {t : TypeId} {cs : Array Value} {fr : Nat × Nat} (d : TypeDesc) (vs : List Value) (hg : w.heap[g]? = some (.cells cs t fr))
 (hu : P.underlying ty = some d) (hd : (match d with | .struct _ | .array _ _ => true | _ => false) = true) (hi : (P.info? ty).map (·.size) = some vs.length) (hp : eM cs off vs) :
 (execOp f o).run P w = .ok (.value (.agg vs.toArray)) w := by
 unfold execOp
 simp only [ho, hx, Instr.loadAt, Instr.sureAddr, Sem.run_bind, Sem.run_pure, Result.andThen_ok, fL w g off t ty cs fr d vs hg hu hd hi hp]
end
section
variable {o : Oper} {f : Operand -> Value} {a : Act} {w : World} {b n : Nat} {x : Bx} {bk ev : Value} {C : World -> Prop} {K : Act -> Prop}
theorem aIi (y : Operand) (ho : o.op = .load 43 y) (hx : f y = .pointer (some ⟨b, 27, none⟩)) (hg : eR w b n x bk ev) : (execOp f o).run prog w = .ok (.value (.agg (vl x.wd).toArray)) w :=
 kI _ y ho b 27 hx _ (vl x.wd) hg underlying43 rfl (by rw [show (vl x.wd).length = 7 from (rfl : (vl _).length = 7)]; exact iV) (by rw [aF0]; exact iR _ _ _ 27 (aDY n x bk))
theorem aIf (y : Operand) (ho : o.op = .load 48 y) (hx : f y = .pointer (some ⟨b, 69, none⟩)) (hg : eR w b n x bk ev) : (execOp f o).run prog w = .ok (.value (.agg (kl x.rk).toArray)) w :=
 kI _ y ho b 69 hx _ (kl x.rk) hg underlying48 rfl (by rw [show (kl x.rk).length = 8 from rfl]; exact iK) (by rw [aG3]; exact iR _ _ _ 69 (aCz n x bk))
theorem aC1 (y : Operand) (ho : o.op = .load 40 y) (hx : a.eval y = .pointer (some ⟨b, 0, none⟩)) (hg : ∀ w, C w -> eR w b n x bk ev) (h : K (a.put o.dst (.agg (fW x.ti n x.D x.S).toArray))) : o.quiet prog a C K :=
 bD _ y ho b 0 hx _ (fW x.ti n x.D x.S) (fun w hw => hg w hw) underlying40 rfl (by rw [show (fW x.ti n x.D x.S).length = 26 from fN _ _ _ _]; exact iC) (by rw [aEw]; exact iR [] _ _ 0 rfl) h
end
theorem aM2 (n c : Nat) (x : Bx) (w : World) : Calls prog 73 #[.agg (bl (fH n c x) 32).toArray] w fun e w' => e = .returned (.int .u32 (wires n c x)) /\ Below w.heap.size w w' := aAI (fH n c x) w
theorem aLl (n c : Nat) (x : Bx) (w : World) : Calls prog 75 #[.agg (dQ (fH n c x) (aO x.msk)).toArray] w fun e w' => e = .returned (.int .i64 (lZ (lm (wires n c x) x.msk))) /\ Below w.heap.size w w' := by
 have := aLu (fH n c x) (aO x.msk) w
 rw [aAz (fun i => fH n c x i && aO x.msk i) (lm (wires n c x) x.msk) (fun i hi => by unfold lm; rw [kR n c x i hi])] at this
 exact this
theorem aCv (b : Bool) : (b != b) = false := by cases b <;> rfl
theorem aK3 (B : Bp) (x : Bx) (bk ev : Value) (w : World) (H : bC w B x) (M : MV w B.c x bk ev) (hl : x.es.length < 4294967296) :
 Calls prog 37 #[.pointer (some ⟨B.b, 0, none⟩), .agg (ml B.n x bk ev).toArray] w fun e w' => e = .returned (.bool true) /\ Below w.heap.size w w' := by
 have ok := H.ok
 obtain ⟨gk, capk, rfl, hrk⟩ := M.k
 obtain ⟨ye, cape, rfl, hye⟩ := oW M.e
 have hb := aE (aI w) (bR B.n x (.slice (some ⟨gk, 0, none⟩) B.c capk) (.slice ye x.es.length cape))
 have HH := Hd (H.below hb)
 have HN := Hd (show eR (w.alloc (bR B.n x (.slice (some ⟨gk, 0, none⟩) B.c capk) (.slice ye x.es.length cape))) w.heap.size B.n x (.slice (some ⟨gk, 0, none⟩) B.c capk) (.slice ye x.es.length cape) from aD w _)
 have HM := Hd (M.below hb)
 have HB := Hd hb
 have HOK := Hd ok
 have HLN := Hd hl
 have HYE := Hd (show x.es.length = 0 \/ ∃ g, ye = some ⟨g, 0, none⟩ from hye.imp id fun ⟨g, h, _⟩ => ⟨g, h⟩)
 clear hb M H hrk ok hl hye
 go_enter func37, ntmps37
 go_upto_region 1 with (fail)
 rw [bU]
 generalize w.alloc (bR B.n x (.slice (some ⟨gk, 0, none⟩) B.c capk) (.slice ye x.es.length cape)) = W at *
 go_upto_region 2 with (first | (refine dM rfl (.tmp 3) rfl rfl HN.out ?_) | (go_at_call 71; refine (xQ B.n B.c x _ _ _ HM.out HOK.out).mono ?_; rintro e w2 ⟨rfl, b1⟩; have HH := Hd (HH.out.below b1); have HN := Hd (HN.out.below b1); have HM := Hd (HM.out.below b1); have HB := Hd (tr HB.out b1); clear b1) | (rw [yB]; refine jM rfl (.tmp 5) (.tmp 15) rfl _ rfl (fH B.n B.c x) (aO x.msk) rfl (aD w2 pK) (by simp [dC]) ?_))
 have hq : rK ((w2.alloc pK).setRow w2.heap.size (dQ (fH B.n B.c x) (aO x.msk)).toArray) w2.heap.size (fH B.n B.c x) (aO x.msk) := aT _ (aD w2 pK)
 have b3 : Below w2.heap.size w2 ((w2.alloc pK).setRow w2.heap.size (dQ (fH B.n B.c x) (aO x.msk)).toArray) := aB (aE (aI w2) pK) _ (Nat.le_refl _)
 generalize (w2.alloc pK).setRow w2.heap.size (dQ (fH B.n B.c x) (aO x.msk)).toArray = w3 at *
 have HQ := Hd hq
 have HH := Hd (HH.out.below b3)
 have HN := Hd (HN.out.below b3)
 have HM := Hd (HM.out.below b3)
 have HB := Hd (tr HB.out b3)
 clear hq b3
 go_upto_region 3 with (go_at_call 70; refine (aAd B x _ HH.out HLN.out).mono ?_; rintro e w4 ⟨v, rfl, hv, b4, hn⟩; have HA := Hd (show aCi w w4 w.heap.size w2.heap.size B x _ _ v from ⟨HH.out.below b4, HN.out.below b4, HM.out.below b4, HQ.out.below b4, hv, tr HB.out b4⟩); clear b4 hn hv)
 obtain ⟨yv, capv, rfl, hyv⟩ := oW HA.out.v
 have HYV := Hd (show x.es.length = 0 \/ ∃ g, yv = some ⟨g, 0, none⟩ from hyv.imp id fun ⟨g, h, _⟩ => ⟨g, h⟩)
 clear hyv HH HN HM HQ HB
 generalize w2.heap.size = q at *
 obtain ⟨L, hL⟩ : ∃ L, lZ (lm (wires B.n B.c x) x.msk) = L := ⟨_, rfl⟩
 obtain ⟨X, hX⟩ : ∃ X, wires B.n B.c x = X := ⟨_, rfl⟩
 have CT := Hd (fun w' (a : bC w' B x) => yK B x w' a)
 have CH := Hd (fun w' (a : bC w' B x) => by have := aME B x w' a; rw [hX] at this; exact this)
 have CO := Hd (fun w' (a : bC w' B x) => by have := aOH B x w' a; unfold aHK at this; rw [hL] at this; exact this)
 have CW := Hd (fun w' => by have := aM2 B.n B.c x w'; rw [hX] at this; exact this)
 have CL := Hd (fun w' => by have := aLl B.n B.c x w'; rw [hL] at this; exact this)
 obtain ⟨tiv, htiv⟩ : ∃ t, x.ti = t := ⟨_, rfl⟩
 have z1 := eW x.ti
 have z2 := eW X
 have z3 := eW (x.es.length : Int)
 have z4 := aCv (decide (0 <= L))
 have cT := HA.out.h.cT
 have cE := HA.out.h.cE
 have lN := HA.out.h.lt
 have hg := bI
 have hf := cP
 clear hL hX htiv tiv
 all_goals
  refine wp_region_quiet_below (by kernel_rfl) (by kernel_rfl) ?_
  repeat (first
   | go_big_quiet_skip
   | (go_big_quiet_want; first
       | (refine aHv (.tmp 27) rfl _ _ rfl (fH B.n B.c x) (cV HA.out.l) (wP _ _) ?_; go_simp; go_big_quiet_on)
       | (refine aIh (.tmp 5) rfl _ rfl (fH B.n B.c x) (aO x.msk) (cV HA.out.l) ?_; go_simp; go_big_quiet_on)
       | (go_big_quiet_op; first
           | go_big_quiet_on
           | go_big_quiet_call (first
              | (go_at_call 20; exact Calls.regrown_of (CT.out _ (HA.out.b.below (below_regrown w4 _ _))))
              | (go_at_call 72; exact Calls.regrown_of (CH.out _ (HA.out.b.below (below_regrown w4 _ _))))
              | (go_at_call 74; exact Calls.regrown_of (CO.out _ (HA.out.b.below (below_regrown w4 _ _))))
              | (go_at_call 73; exact Calls.regrown_of (CW.out _))
              | (go_at_call 75; exact Calls.regrown_of (CL.out _))))))
  refine wpQuiet_nil ?_
  intro _ hw'
  obtain ⟨⟨dq, osq⟩, hw''⟩ := hw'
  subst hw''
  have HA := Hd (HA.out.below (below_regrown w4 dq osq))
  clear cT cE lN
  generalize grow (redrawn w4 dq) osq = w5 at *
  clear z1 z2 z3 z4 CT CH CO CW CL
  go_wp2_with fail
  go_loopw [7] (fun i wr => ∃ k : Nat, k <= x.es.length /\ i = .int .i64 k /\ aCi w wr w.heap.size q B x (.slice (some ⟨gk, 0, none⟩) B.c capk) (.slice ye x.es.length cape) (.slice yv x.es.length capv)) (fun i wr => x.es.length - (intOf i).toNat)
  case atStart => exact ⟨0, by omega, rfl, HA.out⟩
  case round =>
   clear HA
   obtain ⟨k, hk, rfl, A⟩ := hrel
   have HA := Hd A
   clear A
   have hll := HLN.out
   by_cases hlt : k < x.es.length
   . obtain ⟨g1, rfl⟩ : ∃ g, yv = some ⟨g, 0, none⟩ := HYV.out.resolve_left (by omega)
     obtain ⟨g2, rfl⟩ : ∃ g, ye = some ⟨g, 0, none⟩ := HYE.out.resolve_left (by omega)
     obtain ⟨e, he⟩ : ∃ e, x.es[k]? = some e := ⟨_, List.getElem?_eq_getElem hlt⟩
     obtain ⟨c1, c2⟩ := aJK HA.out.v k e he
     obtain ⟨c3, c4⟩ := aJK HA.out.m.e k e he
     have cE := HA.out.h.cE
     have z1 := beq_self_eq_true e.1
     have z2 := beq_self_eq_true e.2
     have z3 := eW e.1
     have z4 := eW e.2
     have HHL := Hd hll
     clear he hll
     go_upto_region 8 with (fail)
     go_region
     all_goals
      clear c1 c2 c3 c4 cE z1 z2 z3 z4
      have HA := Hd (HA.out.below (jH (aI _)))
      generalize World.drew _ = wd at *
      have hll := HHL.out
      go_wp2_with fail
      go_roundw
      case rel => exact ⟨k + 1, by omega, by go_num, HA.out⟩
      case measure => simp [intOf]; omega
   . obtain rfl : k = x.es.length := by omega
     go_wp2_with fail
     go_loopw [8] (fun i wr => ∃ h : Int, -1 <= h /\ h <= 9 /\ i = .int .i64 h /\ aCi w wr w.heap.size q B x (.slice (some ⟨gk, 0, none⟩) B.c capk) (.slice ye x.es.length cape) (.slice yv x.es.length capv)) (fun i wr => (9 - intOf i).toNat)
     case atStart => exact ⟨-1, by omega, by omega, rfl, HA.out⟩
     case round =>
      clear HA
      obtain ⟨h, h0, h9, rfl, A⟩ := hrel
      have HA := Hd A
      clear A
      by_cases hlt : h < 9
      . obtain ⟨X1, hX1⟩ : ∃ X, pM B.n x.D h = X := ⟨_, rfl⟩
        obtain ⟨Y1, hY1⟩ : ∃ X, yJ x.ti B.n x.D h = X := ⟨_, rfl⟩
        have CC := Hd (fun w' (a : bC w' B x) => by have := aDq B x h w' a; rw [hX1] at this; exact this)
        have CL := Hd (fun w' (a : bC w' B x) => by have := aKn B x h w' a; rw [hY1] at this; exact this)
        have RC := Hd (fun w' => by have := xA h x.ti B.n x.D x.S w' HOK.out.n8 HOK.out.d; rw [hX1] at this; exact this)
        have RL := Hd (fun w' => by have := aFx h x.ti B.n x.D x.S w' HOK.out.n8 HOK.out.d; rw [hY1] at this; exact this)
        have z1 := eW X1
        have z2 := aCv Y1
        have lN := HA.out.h.lt
        have hg := bI
        have hf := cP
        clear hX1 hY1
        go_upto_region 13 with (fail)
        refine wp_region_quiet_below (by kernel_rfl) (by kernel_rfl) ?_
        repeat (first
         | go_big_quiet_skip
         | (go_big_quiet_want; first
             | (refine aC1 (.tmp 71) rfl rfl HA.out.h.grown ?_; go_simp; go_big_quiet_on)
             | (refine aC1 (.tmp 80) rfl rfl HA.out.h.grown ?_; go_simp; go_big_quiet_on)
             | (go_big_quiet_op; first
                 | go_big_quiet_on
                 | go_big_quiet_call (first
                    | (go_at_call 76; exact Calls.regrown_of (CC.out _ (HA.out.b.below (below_regrown wr _ _))))
                    | (go_at_call 78; exact Calls.regrown_of (CL.out _ (HA.out.b.below (below_regrown wr _ _))))
                    | (go_at_call 77; exact Calls.regrown_of (RC.out _))
                    | (go_at_call 79; exact Calls.regrown_of (RL.out _))))))
        refine wpQuiet_nil ?_
        intro _ hw'
        obtain ⟨⟨dq, osq⟩, hw''⟩ := hw'
        subst hw''
        have HA := Hd (HA.out.below (below_regrown wr dq osq))
        clear lN
        generalize grow (redrawn wr dq) osq = w5 at *
        clear z1 z2 CC CL RC RL
        go_wp2_with fail
        go_roundw
        case rel => exact ⟨h + 1, by omega, by omega, by go_num, HA.out⟩
        case measure => simp [intOf]; omega
      . obtain rfl : h = 9 := by omega
        go_wp2_with fail
        go_loopw [9] (fun i wr => ∃ j : Int, 0 <= j /\ j <= 4 /\ i = .int .u32 (4 * j) /\ aCi w wr w.heap.size q B x (.slice (some ⟨gk, 0, none⟩) B.c capk) (.slice ye x.es.length cape) (.slice yv x.es.length capv)) (fun i wr => (16 - intOf i).toNat)
        case atStart => exact ⟨0, by omega, by omega, rfl, HA.out⟩
        case round =>
         clear HA
         obtain ⟨j, j0, j4, rfl, A⟩ := hrel
         have HA := Hd A
         clear A
         by_cases hlt : j < 4
         . have q1 : 4 * j < 16 := by omega
           obtain ⟨V, hV⟩ : ∃ X, x.ldv B.n B.c (268632064 + 4 * j) = X := ⟨_, rfl⟩
           obtain ⟨E, hE⟩ : ∃ X, Bx.lde B.n B.c (268632064 + 4 * j) = X := ⟨_, rfl⟩
           have CL := Hd (fun w' (a : bC w' B x) => by have := aBh B x (268632064 + 4 * j) w' a (by omega) (by omega); rw [hV, hE] at this; exact this)
           have RL := Hd (fun w' (M : MV w' B.c x (.slice (some ⟨gk, 0, none⟩) B.c capk) (.slice ye x.es.length cape)) => by have := aJ0 B.n B.c x _ _ (268632064 + 4 * j) w' M HOK.out (by omega) (by omega); rw [hV, hE] at this; exact this)
           have z1 := eW V
           have z2 := eW E
           clear hV hE
           go_wp2_with fail
           refine (CL.out _ HA.out.b).mono ?_
           rintro e w6 ⟨rfl, hb⟩
           have HA := Hd (HA.out.below hb)
           clear hb CL
           go_wp2_with (refine dM rfl (.tmp 3) rfl rfl HA.out.h ?_)
           refine (RL.out _ HA.out.m).mono ?_
           rintro e w7 ⟨rfl, hb⟩
           have HA := Hd (HA.out.below hb)
           clear hb RL
           go_wp2_with fail
           go_roundw
           case rel => exact ⟨j + 1, by omega, by omega, by go_num, HA.out⟩
           case measure => simp [intOf]; omega
         . obtain rfl : j = 4 := by omega
           go_upto_region 22 with (fail)
           have HA := Hd (HA.out.below (jH (aI _)))
           refine wp_region_held_drew (S := fun w' => eR w' w.heap.size B.n x (.slice (some ⟨gk, 0, none⟩) B.c capk) (.slice ye x.es.length cape)) (by kernel_rfl) HA.out.h (fun _ => ?_)
           generalize World.drew _ = wd at *
           refine eA (i := 0) (v := .pointer (some ⟨B.b, 0, none⟩)) HA.out.h ?_
           try simp only [Act.put, dH, dF, dG]
           refine eA (i := 2) (v := .pointer (some ⟨w.heap.size, 26, none⟩)) HA.out.h ?_
           try simp only [Act.put, dH, dF, dG]
           refine rQ (i := 3) (v := .slice (some ⟨gk, 0, none⟩) B.c capk) rfl (by kernel_rfl) (fun _ _ _ h => h) (fun w' hSw => by have c := eR.cB hSw; clear hSw; go_simp) HA.out.h ?_
           try simp only [Act.put, dH, dF, dG]
           refine nP (i := 1) (by kernel_rfl) rfl fun K hK => ?_
           go_simp
           go_wp2_with (go_at_call 81; refine (aLC B x _ HA.out.b).mono ?_; rintro e wa ⟨p1, g1, q1, rfl, h1, hb⟩; have HA := Hd (HA.out.below hb); have HP := Hd h1; clear hb h1)
           refine hK.out _ _ HA.out.h (fun _ => ?_)
           clear hK K
           refine nP (i := 4) (by kernel_rfl) rfl fun K hK => ?_
           go_simp
           go_wp2_with (go_at_call 80; refine ((fun r => aK0 HP.out r) (show eH wa gk B.c capk x.tm from by obtain ⟨g, cap, h, hr⟩ := HA.out.m.k; injection h with h1 h2 h3; injection h1 with h1; injection h1 with h1; subst h1; subst h3; exact hr)).mono ?_; rintro e wb ⟨rfl, hb⟩; have HA := Hd (HA.out.below hb); clear hb HP)
           refine hK.out _ _ HA.out.h (fun _ => ?_)
           clear hK K
           refine eA (i := 5) (v := .bool true) HA.out.h ?_
           try simp only [Act.put, dH, dF, dG]
           refine eA (i := 6) (v := .pointer (some ⟨B.b, 0, none⟩)) HA.out.h ?_
           try simp only [Act.put, dH, dF, dG]
           refine eA (i := 8) (v := .pointer (some ⟨w.heap.size, 27, none⟩)) HA.out.h ?_
           try simp only [Act.put, dH, dF, dG]
           refine rQ (i := 9) (v := .agg (vl x.wd).toArray) rfl (by kernel_rfl) (fun _ _ _ h => h) (fun w' hSw => aIi (.tmp 120) rfl rfl hSw) HA.out.h ?_
           try simp only [Act.put, dH, dF, dG]
           refine nP (i := 7) (by kernel_rfl) rfl fun K hK => ?_
           go_simp
           go_wp2_with (go_at_call 83; refine (aMz B x _ HA.out.b).mono ?_; rintro e wc ⟨p2, rfl, h1, hb⟩; have HA := Hd (HA.out.below hb); have HP := Hd h1; clear hb h1)
           refine hK.out _ _ HA.out.h (fun _ => ?_)
           clear hK K
           refine nP (i := 10) (by kernel_rfl) rfl fun K hK => ?_
           go_simp
           go_wp2_with (go_at_call 82; refine (aLk x.wd p2 _ HOK.out.wd HP.out).mono ?_; rintro e wd2 ⟨rfl, hb⟩; have HA := Hd (HA.out.below hb); clear hb HP)
           refine hK.out _ _ HA.out.h (fun _ => ?_)
           clear hK K
           refine eA (i := 11) (v := .bool true) HA.out.h ?_
           try simp only [Act.put, dH, dF, dG]
           refine eA (i := 12) (v := .bool true) HA.out.h ?_
           try simp only [Act.put, dH, dF, dG]
           refine eA (i := 13) (v := .pointer (some ⟨B.b, 0, none⟩)) HA.out.h ?_
           try simp only [Act.put, dH, dF, dG]
           refine eA (i := 15) (v := .pointer (some ⟨w.heap.size, 69, none⟩)) HA.out.h ?_
           try simp only [Act.put, dH, dF, dG]
           refine rQ (i := 16) (v := .agg (kl x.rk).toArray) rfl (by kernel_rfl) (fun _ _ _ h => h) (fun w' hSw => aIf (.tmp 127) rfl rfl hSw) HA.out.h ?_
           try simp only [Act.put, dH, dF, dG]
           refine nP (i := 14) (by kernel_rfl) rfl fun K hK => ?_
           go_simp
           go_wp2_with (go_at_call 85; refine (aM8 B x _ HA.out.b).mono ?_; rintro e we ⟨p3, rfl, h1, hb⟩; have HA := Hd (HA.out.below hb); have HP := Hd h1; clear hb h1)
           refine hK.out _ _ HA.out.h (fun _ => ?_)
           clear hK K
           refine nP (i := 17) (by kernel_rfl) rfl fun K hK => ?_
           go_simp
           go_wp2_with (go_at_call 84; refine (aL6 x.rk p3 _ HOK.out.rk HP.out).mono ?_; rintro e wf ⟨rfl, hb⟩; have HA := Hd (HA.out.below hb); clear hb HP)
           refine hK.out _ _ HA.out.h (fun _ => ?_)
           clear hK K
           refine eA (i := 18) (v := .bool true) HA.out.h ?_
           refine eA (i := 19) (v := .bool true) HA.out.h ?_
           refine wpAnyH_done (by kernel_rfl) ?_ _
           go_wp2_with fail
           go_ret
           exact ⟨rfl, HA.out.lo⟩
end Go.Proofs.YtpojmmgokgamgaaGreat.B
