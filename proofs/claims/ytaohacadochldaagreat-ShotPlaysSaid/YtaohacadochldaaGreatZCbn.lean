/- A part of the proof of a law of layer 12: bn. -/
import Derived.Test.YtaohacadochldaaGreatZCbm
import Derived.Deep.RegionWith
set_option linter.unusedVariables false
set_option linter.unusedSimpArgs false
set_option maxHeartbeats 12800000
set_option maxRecDepth 100000
namespace Go.Proofs.YtaohacadochldaaGreat.B
open Go.Proofs.Tryz
open Go.ChangeShapes Go.WideShapes Go.RowKit Go.Sort Go.MapKept
theorem aK2 {w : World} {p g n gm cap : Nat} {q : Nat -> Nat} {t : Nat -> Tm} (h : cK w p g n q t) (r : eD w gm n cap t) :
 Calls prog 90 #[.pointer (some ⟨p, 0, none⟩), .slice (some ⟨gm, 0, none⟩) n cap] w fun e w' => e = .returned (.bool true) /\ Below w.heap.size w w' := by
 have n8 := h.rm.n8
 have OK := Hd h.rm.ok
 have hcm := r.cm
 have hnc := r.nc
 unfold maxLen at hcm
 obtain ⟨m, i, hbest⟩ := aEI t n h.rm.ok
 have hm := hbest.bounds h.rm.ok
 have hi := hbest.place
 unfold nvr at hm
 have HBest := Hd hbest
 obtain ⟨X, hX⟩ : ∃ X, ob (fHi t) n = X := ⟨_, rfl⟩
 obtain ⟨Y, hY⟩ : ∃ Y, ob (fRn t) n = Y := ⟨_, rfl⟩
 have CW := Hd (fun (w : World) (r : eD w gm n cap t) => by have := aLp r n8; rw [hX, hY] at this; exact this)
 have CLi := Hd (fun (w : World) (h : cK w p g n q t) => by have := aFK h; rw [show ob (fun i => (t i).st && (t i).iq) n = X from hX] at this; exact this)
 have CR := Hd (fun (w : World) (h : cK w p g n q t) => by have := aNj h; rw [show ob (fun i => (t i).en) n = Y from hY] at this; exact this)
 have z1 : (X != X) = false := by simp
 have z2 : (Y != Y) = false := by simp
 have z3 : (m != m) = false := by simp
 have z4 : (i != i) = false := by simp
 clear hbest hX hY
 have H := h
 have R := r
 clear h r
 go_enter func90, ntmps90
 go_wp2_with fail
 refine (aEF H).mono ?_
 rintro e w' ⟨rfl, rfl⟩
 go_wp2_with fail
 refine (CW.out _ R).mono ?_
 rintro e w' ⟨rfl, rfl⟩
 go_wp2_with fail
 refine (aOG R OK.out n8 m i HBest.out).mono ?_
 rintro e w1 ⟨rfl, hb⟩
 have H1 := H.below hb
 have R1 := R.below hb
 have B1 := hb
 clear H R hb
 go_wp2_with fail
 refine (aNg H1 m i HBest.out).mono ?_
 rintro e w2 ⟨rfl, hb⟩
 have H := H1.below hb
 have R := R1.below hb
 have hB := tr B1 hb
 clear H1 R1 B1 hb
 go_wp2_with fail
 refine (CLi.out _ H).mono ?_
 rintro e w3 ⟨rfl, hb⟩
 have H1 := H.below hb
 have R1 := R.below hb
 have B1 := tr hB hb
 clear H R hB hb
 go_wp2_with fail
 refine (CR.out _ H1).mono ?_
 rintro e w4 ⟨rfl, hb⟩
 have H := H1.below hb
 have R := R1.below hb
 have hB := tr B1 hb
 clear H1 R1 B1 hb
 go_wp2_with fail
 refine (aAq H (-1) (.inl (by omega))).mono ?_
 rintro e w' ⟨rfl, rfl⟩
 go_wp2_with fail
 refine (aAq H n (.inr (by omega))).mono ?_
 rintro e w' ⟨rfl, rfl⟩
 clear CW CLi CR z1 z2 z3 z4 HBest hm hi
 go_wp2_with fail
 go_loopw [11] (fun i wr => ∃ k : Nat, k <= n /\ i = .int .i64 k /\ cK wr p g n q t /\ eD wr gm n cap t /\ Below w.heap.size w wr) (fun i wr => n - (intOf i).toNat)
 case atStart => exact ⟨0, by omega, rfl, H, R, hB⟩
 case round =>
  clear H R hB
  obtain ⟨k, hk, rfl, H, R, hB⟩ := hrel
  by_cases hlt : k < n
  . have hin := R.at hlt
    have ok := OK.out k hlt
    have HH := Hd H
    have HR := Hd R
    have HBB := Hd hB
    have CT := Hd (fun (w : World) (h : cK w p g n q t) => aFM h k hlt)
    clear H R hB
    go_wp2_with fail
    have hsz : gm < wr.heap.size := hin.lt
    have c0 := hin.cell 0 _ rfl
    have c1 := hin.cell 1 _ rfl
    have c2 := hin.cell 2 _ rfl
    have c3 := hin.cell 3 _ rfl
    have c4 := hin.cell 4 _ rfl
    have c5 := hin.cell 5 _ rfl
    have c6 := hin.cell 6 _ rfl
    have c7 := hin.cell 7 _ rfl
    simp only [Nat.add_zero] at c0
    have HIN := Hd hin
    clear hin
    go_region_with (first
     | (go_at_call 158
        refine (CT.out _ (HH.out.below (jQ (aH _)))).mono ?_
        rintro e w5 ⟨rfl, hw5⟩
        have hb5 : Below wr.heap.size wr w5 := by rw [hw5]; exact aE (jQ (aH _)) _
        have A5 : jN w5 wr.drew.heap.size tC (t k) := by rw [hw5]; exact aD wr.drew _
        have hin5 := HIN.out.below hb5
        clear c0 c1 c2 c3 c4 c5 c6 c7 hw5
        have c0 := hin5.cell 0 _ rfl
        have c1 := hin5.cell 1 _ rfl
        have c2 := hin5.cell 2 _ rfl
        have c3 := hin5.cell 3 _ rfl
        have c4 := hin5.cell 4 _ rfl
        have c5 := hin5.cell 5 _ rfl
        have c6 := hin5.cell 6 _ rfl
        have c7 := hin5.cell 7 _ rfl
        simp only [Nat.add_zero] at c0
        clear hin5)
     | (go_at_call 159
        refine (aMG (t k) _ _ ok A5).mono ?_
        rintro e w6 ⟨rfl, hb6⟩
        have hb6 := hb5.trans (hb6.mono hb5.size)
        clear c0 c1 c2 c3 c4 c5 c6 c7 A5))
    all_goals
     have H2 := HH.out.below hb6
     have R2 := HR.out.below hb6
     have B2 := HBB.out.trans (hb6.mono HBB.out.size)
     go_wp2_with fail
     go_roundw
     case rel => exact ⟨k + 1, by omega, by go_num, H2, R2, B2⟩
     case measure => simp [intOf]; omega
  . obtain rfl : k = n := by omega
    go_wp2_with fail
    go_ret
    exact ⟨rfl, hB⟩
def d1 : Wd := ⟨false, false, false, 3, 0, 0, 0⟩
def d2 : Wd := ⟨false, false, false, 3, 10, 0, 0⟩
def d3 : Wd := ⟨true, false, false, 3, 10, 0, 0⟩
def d4 : Wd := ⟨true, false, false, 3, 10, 2, 0⟩
def d5 : Wd := ⟨true, false, true, 3, 10, 2, 0⟩
theorem aLM (t : Wd) (p : Nat) (w : World) (h : t.ok) (a : eC w p t) :
 Calls prog 92 #[.pointer (some ⟨p, 0, none⟩), .agg (vl t).toArray] w fun e w' => e = .returned (.bool true) /\ Below w.heap.size w w' := by
 have A := a.below (aE (aH w) (oV t))
 have M : bX (w.alloc (oV t)) w.heap.size t := aD w (oV t)
 have hB := aE (aH w) (oV t)
 clear a
 go_enter func92, ntmps92
 go_upto_region 1 with (fail)
 rw [eH]
 generalize (w.alloc (oV t)) = W at *
 go_wp2_with fail
 go_loopw [5] (fun i wr => ∃ j : Int, 0 <= j /\ j <= 5 /\ i = .int .u32 (4 * j) /\ eC wr p t /\ bX wr w.heap.size t /\ Below w.heap.size w wr) (fun i wr => (20 - intOf i).toNat)
 case atStart => exact ⟨0, by omega, by omega, rfl, A, M, hB⟩
 case round =>
  clear A M hB
  obtain ⟨j, j0, j4, rfl, A, M, hB⟩ := hrel
  by_cases hlt : j < 5
  . have q : 4 * j < 20 := by omega
    obtain ⟨V, hV⟩ : ∃ V, t.val (4 * j) = V := ⟨_, rfl⟩
    obtain ⟨E, hE⟩ : ∃ E, eS (4 * j) = E := ⟨_, rfl⟩
    have CL := Hd (fun w a => by have := aKA t (4 * j) p w h a (by omega) (by omega); rw [hV, hE] at this; exact this)
    have RL := Hd (fun w => by have := nH t (4 * j) w h (by omega) (by omega); rw [hV, hE] at this; exact this)
    have zV : (V != V) = false := by simp
    have zE : (E != E) = false := by simp
    clear hV hE
    go_wp2_with fail
    refine (CL.out _ A).mono ?_
    rintro e w1 ⟨rfl, hb⟩
    have A1 := A.below hb
    have M1 := M.below hb
    have B1 := tr hB hb
    clear A M hB hb CL
    go_wp2_with (refine bW rfl (.tmp 3) rfl rfl M1 ?_)
    refine (RL.out _).mono ?_
    rintro e w2 ⟨rfl, hb⟩
    have A := A1.below hb
    have M := M1.below hb
    have B := tr B1 hb
    clear A1 M1 B1 hb RL
    go_wp2_with fail
    go_roundw
    case rel => exact ⟨j + 1, by omega, by omega, by go_num, A, M, B⟩
    case measure => simp [intOf]; omega
  . obtain rfl : j = 5 := by omega
    obtain ⟨V, hV⟩ : ∃ V, t.left = V := ⟨_, rfl⟩
    have m0 := M.c0
    have m1 := M.c1
    have m2 := M.c2
    have m5 := M.c5
    have m6 := M.c6
    have FA := Hd (fun w a => aCR t p w a)
    have EN := Hd (fun w a => aAz t p w a)
    have LK := Hd (fun w a => aIT t p w a)
    have AR := Hd (fun w a => aLN t p w a)
    have SI := Hd (fun w a => aLT t p w a)
    have LF := Hd (fun w a => by have := aN1 t p w h a; rw [hV] at this; exact this)
    have ML := Hd (fun w => by have := aKr t w h; rw [hV] at this; exact this)
    have HA := Hd A
    have HM := Hd M
    have hg := bC
    have hlt := M.lt
    have z0 := beq_self_eq_true t.fa
    have z1 := beq_self_eq_true t.si
    have z2 := beq_self_eq_true V
    have z3 : (t.en == t.en) = true := by simp
    have z4 : (t.lk == t.lk) = true := by simp
    have z5 : (t.ar == t.ar) = true := by simp
    clear A M hV h
    go_wp2_with fail
    refine wp_region_quiet_below (by kernel_rfl) (by kernel_rfl) ?_
    repeat (first
     | go_big_quiet_skip
     | (go_big_quiet_want; first
         | (refine aMg (.tmp 3) rfl rfl HM.out.grown ?_; go_simp; go_big_quiet_on)
         | (go_big_quiet_op; first
             | go_big_quiet_on
             | go_big_quiet_call (first
                | (go_at_call 109; exact Calls.regrown_of ((FA.out _ (HA.out.below (below_regrown wr _ _))).mono fun e w' h => ⟨h.1, h.2 ▸ aH _⟩))
                | (go_at_call 161; exact Calls.regrown_of ((EN.out _ (HA.out.below (below_regrown wr _ _))).mono fun e w' h => ⟨h.1, h.2 ▸ aH _⟩))
                | (go_at_call 162; exact Calls.regrown_of ((LK.out _ (HA.out.below (below_regrown wr _ _))).mono fun e w' h => ⟨h.1, h.2 ▸ aH _⟩))
                | (go_at_call 163; exact Calls.regrown_of ((AR.out _ (HA.out.below (below_regrown wr _ _))).mono fun e w' h => ⟨h.1, h.2 ▸ aH _⟩))
                | (go_at_call 164; exact Calls.regrown_of ((SI.out _ (HA.out.below (below_regrown wr _ _))).mono fun e w' h => ⟨h.1, h.2 ▸ aH _⟩))
                | (go_at_call 165; exact Calls.regrown_of (LF.out _ (HA.out.below (below_regrown wr _ _))))
                | (go_at_call 136; exact Calls.regrown_of (ML.out _))))))
    refine wpQuiet_nil ?_
    intro _ hw'
    obtain ⟨⟨dq, osq⟩, hw''⟩ := hw'
    subst hw''
    go_wp2_with fail
    go_ret
    exact ⟨cU (by simp), trG hB _ _⟩
def kt1 : Rk := ⟨10, 0, 0, 0, 2, 0, false, false⟩
theorem aLa (t : Rk) (p : Nat) (w : World) (h : t.ok) (a : dB w p dK t) :
 Calls prog 94 #[.pointer (some ⟨p, 0, none⟩), .agg (kl t).toArray] w fun e w' => e = .returned (.bool true) /\ Below w.heap.size w w' := by
 have A := a.below (aE (aH w) (oK t))
 have M : bL (w.alloc (oK t)) w.heap.size t := aD w (oK t)
 have hB := aE (aH w) (oK t)
 clear a
 go_enter func94, ntmps94
 go_upto_region 1 with (fail)
 rw [eV]
 generalize (w.alloc (oK t)) = W at *
 go_wp2_with fail
 go_loopw [5] (fun i wr => ∃ j : Int, 0 <= j /\ j <= 9 /\ i = .int .u32 (4 * j) /\ dB wr p dK t /\ bL wr w.heap.size t /\ Below w.heap.size w wr) (fun i wr => (36 - intOf i).toNat)
 case atStart => exact ⟨0, by omega, by omega, rfl, A, M, hB⟩
 case round =>
  clear A M hB
  obtain ⟨j, j0, j4, rfl, A, M, hB⟩ := hrel
  by_cases hlt : j < 9
  . have q : 4 * j < 36 := by omega
    obtain ⟨V, hV⟩ : ∃ V, t.valE (4 * j) = V := ⟨_, rfl⟩
    obtain ⟨E, hE⟩ : ∃ E, bF (4 * j) = E := ⟨_, rfl⟩
    have CL := Hd (fun w a => by have := aKE t (4 * j) p w h a (by omega) (by omega); rw [hV, hE] at this; exact this)
    have RL := Hd (fun w => by have := mD t (4 * j) w h (by omega) (by omega); rw [hV, hE] at this; exact this)
    have zV : (V != V) = false := by simp
    have zE : (E != E) = false := by simp
    clear hV hE
    go_wp2_with fail
    refine (CL.out _ A).mono ?_
    rintro e w1 ⟨rfl, hb⟩
    have A1 := A.below hb
    have M1 := M.below hb
    have B1 := tr hB hb
    clear A M hB hb CL
    go_wp2_with (refine dF rfl (.tmp 3) rfl rfl M1 ?_)
    refine (RL.out _).mono ?_
    rintro e w2 ⟨rfl, hb⟩
    have A := A1.below hb
    have M := M1.below hb
    have B := tr B1 hb
    clear A1 M1 B1 hb RL
    go_wp2_with fail
    go_roundw
    case rel => exact ⟨j + 1, by omega, by omega, by go_num, A, M, B⟩
    case measure => simp [intOf]; omega
  . obtain rfl : j = 9 := by omega
    have m1 := M.c1
    have m3 := M.c3
    have m7 := M.c7
    have SE := Hd (fun w a => aFr t p w a)
    have RE := Hd (fun w a => aN6 t p w a)
    have LI := Hd (fun w a => aKD t p w a)
    obtain ⟨X, hX⟩ : ∃ X, t.alarm = X := ⟨_, rfl⟩
    obtain ⟨Y, hY⟩ : ∃ Y, t.met = Y := ⟨_, rfl⟩
    obtain ⟨Z, hZ⟩ : ∃ Z, t.left = Z := ⟨_, rfl⟩
    have AL := Hd (fun w a => by have := aLZ t p w a; rw [hX] at this; exact this)
    have KA := Hd (fun w => by have := aCc t w h; rw [hX] at this; exact this)
    have ME := Hd (fun w a => by have := aN5 t p w h a; rw [hY] at this; exact this)
    have KM := Hd (fun w => by have := aIi t w h; rw [hY] at this; exact this)
    have LF := Hd (fun w a => by have := aN4 t p w h a; rw [hZ] at this; exact this)
    have KL := Hd (fun w => by have := aOK t w h; rw [hZ] at this; exact this)
    have HA := Hd A
    have HM := Hd M
    have hg := bC
    have hlt := M.lt
    have z0 := beq_self_eq_true t.sec
    have z1 := beq_self_eq_true t.rest
    have z2 := beq_self_eq_true X
    have z3 : (Y == Y) = true := by simp
    have z4 : (t.st == t.st) = true := by simp
    have z5 := beq_self_eq_true Z
    clear A M hX hY hZ h
    go_wp2_with fail
    refine wp_region_quiet_below (by kernel_rfl) (by kernel_rfl) ?_
    repeat (first
     | go_big_quiet_skip
     | (go_big_quiet_want; first
         | (refine aCw (.tmp 3) rfl rfl HM.out.grown ?_; go_simp; go_big_quiet_on)
         | (go_big_quiet_op; first
             | go_big_quiet_on
             | go_big_quiet_call (first
                | (go_at_call 167; exact Calls.regrown_of (SE.out _ (HA.out.below (below_regrown wr _ _))))
                | (go_at_call 168; exact Calls.regrown_of (RE.out _ (HA.out.below (below_regrown wr _ _))))
                | (go_at_call 169; exact Calls.regrown_of (AL.out _ (HA.out.below (below_regrown wr _ _))))
                | (go_at_call 171; exact Calls.regrown_of (ME.out _ (HA.out.below (below_regrown wr _ _))))
                | (go_at_call 115; exact Calls.regrown_of (LI.out _ (HA.out.below (below_regrown wr _ _))))
                | (go_at_call 173; exact Calls.regrown_of (LF.out _ (HA.out.below (below_regrown wr _ _))))
                | (go_at_call 170; exact Calls.regrown_of (KA.out _))
                | (go_at_call 172; exact Calls.regrown_of (KM.out _))
                | (go_at_call 174; exact Calls.regrown_of (KL.out _))))))
    refine wpQuiet_nil ?_
    intro _ hw'
    obtain ⟨⟨dq, osq⟩, hw''⟩ := hw'
    subst hw''
    go_wp2_with fail
    go_ret
    exact ⟨cU (by simp), trG hB _ _⟩
structure aB3 (w0 w : World) (p q : Nat) (B : Bp) (x : Bx) (bk ev v : Value) : Prop where
 b : aZ w B x
 h : eY w p B.n x bk ev
 m : MV w B.c x bk ev
 l : sI w q (fH B.n B.c x) (aO x.msk)
 v : gN w tEv v x.es
 lo : Below w0.heap.size w0 w
theorem aB3.below {w0 w w' : World} {p q : Nat} {B : Bp} {x : Bx} {bk ev v : Value} (A : aB3 w0 w p q B x bk ev v) (hb : Below w.heap.size w w') : aB3 w0 w' p q B x bk ev v :=
 ⟨A.b.below hb, A.h.below hb, A.m.below hb, A.l.below hb, A.v.below hb, tr A.lo hb⟩
theorem eY.grown {w : World} {b n : Nat} {x : Bx} {bk ev : Value} (h : eY w b n x bk ev) : ∀ w', (∃ p : Regrown, w' = grow (redrawn w p.d) p.os) -> eY w' b n x bk ev := bZ h
theorem pU {w : World} {T : TypeId} {v : Value} {es : List (Int × Int)} (h : gN w T v es) : ∃ y cap, v = .slice y es.length cap /\ (es.length = 0 \/ ∃ g, y = some ⟨g, 0, none⟩ /\ g < w.heap.size) := by
 rcases gH h with ⟨h1, h2⟩ | ⟨g, cap, h1, _, _, hl, _⟩
 . exact ⟨none, 0, by rw [h1, h2], .inl h2⟩
 . exact ⟨_, cap, h1, .inr ⟨g, rfl, hl⟩⟩
theorem aKG {w : World} {T : TypeId} {g cap : Nat} {es : List (Int × Int)} (h : gN w T (.slice (some ⟨g, 0, none⟩) es.length cap) es) (k : Nat) (e : Int × Int) (hk : es[k]? = some e) :
 w.cell? ⟨g, k * 2, none⟩ = some (.int .u64 e.1) /\ w.cell? ⟨g, k * 2 + 1, none⟩ = some (.int .i64 e.2) := by
 have h0 := tT h (k * 2 + 0) _ (by rw [pW zN 2 nY es k 0 e hk (by decide)]; rfl)
 have h1 := tT h (k * 2 + 1) _ (by rw [pW zN 2 nY es k 1 e hk (by decide)]; rfl)
 rw [Addr.add_lit, Nat.zero_add] at h0 h1
 exact ⟨h0, h1⟩
section
variable {P : Program}
theorem kS {o : Oper} {f : Operand -> Value} {w : World} (ty : TypeId) (x : Operand) (ho : o.op = .load ty x)
 (g off : Nat) (hx : f x = .pointer (some ⟨g, off, none⟩)) {t : TypeId} {cs : Array Value} {fr : Nat × Nat} (d : TypeDesc) (vs : List Value) (hg : w.heap[g]? = some (.cells cs t fr))
 (hu : P.underlying ty = some d) (hd : (match d with | .struct _ | .array _ _ => true | _ => false) = true) (hi : (P.info? ty).map (·.size) = some vs.length) (hp : eM cs off vs) :
 (execOp f o).run P w = .ok (.value (.agg vs.toArray)) w := by
 unfold execOp
 simp only [ho, hx, Instr.loadAt, Instr.sureAddr, Sem.run_bind, Sem.run_pure, Result.andThen_ok, fC w g off t ty cs fr d vs hg hu hd hi hp]
end
section
variable {o : Oper} {f : Operand -> Value} {a : Act} {w : World} {b n : Nat} {x : Bx} {bk ev : Value} {C : World -> Prop} {K : Act -> Prop}
theorem aJC (y : Operand) (ho : o.op = .load 32 y) (hx : f y = .pointer (some ⟨b, 27, none⟩)) (hg : eY w b n x bk ev) : (execOp f o).run prog w = .ok (.value (.agg (vl x.wd).toArray)) w :=
 kS _ y ho b 27 hx _ (vl x.wd) hg underlying32 rfl (by rw [show (vl x.wd).length = 7 from (rfl : (vl _).length = 7)]; exact iV) (by rw [aGk]; exact jG _ _ _ 27 (aDe n x bk))
theorem aJB (y : Operand) (ho : o.op = .load 37 y) (hx : f y = .pointer (some ⟨b, 69, none⟩)) (hg : eY w b n x bk ev) : (execOp f o).run prog w = .ok (.value (.agg (kl x.rk).toArray)) w :=
 kS _ y ho b 69 hx _ (kl x.rk) hg underlying37 rfl (by rw [show (kl x.rk).length = 8 from rfl]; exact iK) (by rw [aGj]; exact jG _ _ _ 69 (aDd n x bk))
theorem aDu (y : Operand) (ho : o.op = .load 29 y) (hx : a.eval y = .pointer (some ⟨b, 0, none⟩)) (hg : ∀ w, C w -> eY w b n x bk ev) (h : K (a.put o.dst (.agg (gC x.ti n x.D x.S).toArray))) : o.quiet prog a C K :=
 bD _ y ho b 0 hx _ (gC x.ti n x.D x.S) (fun w hw => hg w hw) underlying29 rfl (by rw [show (gC x.ti n x.D x.S).length = 26 from fO _ _ _ _]; exact iC) (by rw [aGi]; exact jG [] _ _ 0 rfl) h
end
theorem aPC (n c : Nat) (x : Bx) (w : World) : Calls prog 87 #[.agg (bl (fH n c x) 32).toArray] w fun e w' => e = .returned (.int .u32 (wires n c x)) /\ Below w.heap.size w w' := aBT (fH n c x) w
theorem aL6 (n c : Nat) (x : Bx) (w : World) : Calls prog 89 #[.agg (dZ (fH n c x) (aO x.msk)).toArray] w fun e w' => e = .returned (.int .i64 (oT (lm (wires n c x) x.msk))) /\ Below w.heap.size w w' := by
 have := aMi (fH n c x) (aO x.msk) w
 rw [aBH (fun i => fH n c x i && aO x.msk i) (lm (wires n c x) x.msk) (fun i hi => by unfold lm; rw [kX n c x i hi])] at this
 exact this
theorem aDP (b : Bool) : (b != b) = false := by cases b <;> rfl
theorem aNE (B : Bp) (x : Bx) (bk ev : Value) (w : World) (H : aZ w B x) (M : MV w B.c x bk ev) (hl : x.es.length < 4294967296) :
 Calls prog 50 #[.pointer (some ⟨B.b, 0, none⟩), .agg (ml B.n x bk ev).toArray] w fun e w' => e = .returned (.bool true) /\ Below w.heap.size w w' := by
 have ok := H.ok
 obtain ⟨gk, capk, rfl, hrk⟩ := M.k
 obtain ⟨ye, cape, rfl, hye⟩ := pU M.e
 have hb := aE (aH w) (bV B.n x (.slice (some ⟨gk, 0, none⟩) B.c capk) (.slice ye x.es.length cape))
 have HH := Hd (H.below hb)
 have HN := Hd (show eY (w.alloc (bV B.n x (.slice (some ⟨gk, 0, none⟩) B.c capk) (.slice ye x.es.length cape))) w.heap.size B.n x (.slice (some ⟨gk, 0, none⟩) B.c capk) (.slice ye x.es.length cape) from aD w _)
 have HM := Hd (M.below hb)
 have HB := Hd hb
 have HOK := Hd ok
 have HLN := Hd hl
 have HYE := Hd (show x.es.length = 0 \/ ∃ g, ye = some ⟨g, 0, none⟩ from hye.imp id fun ⟨g, h, _⟩ => ⟨g, h⟩)
 clear hb M H hrk ok hl hye
 go_enter func50, ntmps50
 go_upto_region 1 with (fail)
 rw [cI]
 generalize w.alloc (bV B.n x (.slice (some ⟨gk, 0, none⟩) B.c capk) (.slice ye x.es.length cape)) = W at *
 go_upto_region 2 with (first | (refine dU rfl (.tmp 3) rfl rfl HN.out ?_) | (go_at_call 85; refine (aAe B.n B.c x _ _ _ HM.out HOK.out).mono ?_; rintro e w2 ⟨rfl, b1⟩; have HH := Hd (HH.out.below b1); have HN := Hd (HN.out.below b1); have HM := Hd (HM.out.below b1); have HB := Hd (tr HB.out b1); clear b1) | (rw [aAf]; refine jU rfl (.tmp 5) (.tmp 15) rfl _ rfl (fH B.n B.c x) (aO x.msk) rfl (aD w2 qO) (by simp [dJ]) ?_))
 have hq : sI ((w2.alloc qO).setRow w2.heap.size (dZ (fH B.n B.c x) (aO x.msk)).toArray) w2.heap.size (fH B.n B.c x) (aO x.msk) := aY _ (aD w2 qO)
 have b3 : Below w2.heap.size w2 ((w2.alloc qO).setRow w2.heap.size (dZ (fH B.n B.c x) (aO x.msk)).toArray) := aB (aE (aH w2) qO) _ (Nat.le_refl _)
 generalize (w2.alloc qO).setRow w2.heap.size (dZ (fH B.n B.c x) (aO x.msk)).toArray = w3 at *
 have HQ := Hd hq
 have HH := Hd (HH.out.below b3)
 have HN := Hd (HN.out.below b3)
 have HM := Hd (HM.out.below b3)
 have HB := Hd (tr HB.out b3)
 clear hq b3
 go_upto_region 3 with (go_at_call 82; refine (aAs B x _ HH.out HLN.out).mono ?_; rintro e w4 ⟨v, rfl, hv, b4, hn⟩; have HA := Hd (show aB3 w w4 w.heap.size w2.heap.size B x _ _ v from ⟨HH.out.below b4, HN.out.below b4, HM.out.below b4, HQ.out.below b4, hv, tr HB.out b4⟩); clear b4 hn hv)
 obtain ⟨yv, capv, rfl, hyv⟩ := pU HA.out.v
 have HYV := Hd (show x.es.length = 0 \/ ∃ g, yv = some ⟨g, 0, none⟩ from hyv.imp id fun ⟨g, h, _⟩ => ⟨g, h⟩)
 clear hyv HH HN HM HQ HB
 generalize w2.heap.size = q at *
 obtain ⟨L, hL⟩ : ∃ L, oT (lm (wires B.n B.c x) x.msk) = L := ⟨_, rfl⟩
 obtain ⟨X, hX⟩ : ∃ X, wires B.n B.c x = X := ⟨_, rfl⟩
 have CT := Hd (fun w' (a : aZ w' B x) => aFP B x w' a)
 have CH := Hd (fun w' (a : aZ w' B x) => by have := aK7 B x w' a; rw [hX] at this; exact this)
 have CO := Hd (fun w' (a : aZ w' B x) => by have := aNn B x w' a; unfold aGz at this; rw [hL] at this; exact this)
 have CW := Hd (fun w' => by have := aPC B.n B.c x w'; rw [hX] at this; exact this)
 have CL := Hd (fun w' => by have := aL6 B.n B.c x w'; rw [hL] at this; exact this)
 obtain ⟨tiv, htiv⟩ : ∃ t, x.ti = t := ⟨_, rfl⟩
 have z1 := fP x.ti
 have z2 := fP X
 have z3 := fP (x.es.length : Int)
 have z4 := aDP (decide (0 <= L))
 have cT := HA.out.h.cT
 have cE := HA.out.h.cE
 have lN := HA.out.h.lt
 have hg := bC
 have hf := dE
 clear hL hX htiv tiv
 all_goals
  refine wp_region_quiet_below (by kernel_rfl) (by kernel_rfl) ?_
  repeat (first
   | go_big_quiet_skip
   | (go_big_quiet_want; first
       | (refine aI3 (.tmp 27) rfl _ _ rfl (fH B.n B.c x) (bZ HA.out.l) (yG _ _) ?_; go_simp; go_big_quiet_on)
       | (refine aI4 (.tmp 5) rfl _ rfl (fH B.n B.c x) (aO x.msk) (bZ HA.out.l) ?_; go_simp; go_big_quiet_on)
       | (go_big_quiet_op; first
           | go_big_quiet_on
           | go_big_quiet_call (first
              | (go_at_call 23; exact Calls.regrown_of (CT.out _ (HA.out.b.below (below_regrown w4 _ _))))
              | (go_at_call 86; exact Calls.regrown_of (CH.out _ (HA.out.b.below (below_regrown w4 _ _))))
              | (go_at_call 88; exact Calls.regrown_of (CO.out _ (HA.out.b.below (below_regrown w4 _ _))))
              | (go_at_call 87; exact Calls.regrown_of (CW.out _))
              | (go_at_call 89; exact Calls.regrown_of (CL.out _))))))
  refine wpQuiet_nil ?_
  intro _ hw'
  obtain ⟨⟨dq, osq⟩, hw''⟩ := hw'
  subst hw''
  have HA := Hd (HA.out.below (below_regrown w4 dq osq))
  clear cT cE lN
  generalize grow (redrawn w4 dq) osq = w5 at *
  clear z1 z2 z3 z4 CT CH CO CW CL
  go_wp2_with fail
  go_loopw [7] (fun i wr => ∃ k : Nat, k <= x.es.length /\ i = .int .i64 k /\ aB3 w wr w.heap.size q B x (.slice (some ⟨gk, 0, none⟩) B.c capk) (.slice ye x.es.length cape) (.slice yv x.es.length capv)) (fun i wr => x.es.length - (intOf i).toNat)
  case atStart => exact ⟨0, by omega, rfl, HA.out⟩
  case round =>
   clear HA
   obtain ⟨k, hk, rfl, A⟩ := hrel
   have HA := Hd A
   clear A
   have hll := HLN.out
   by_cases hlt : k < x.es.length
   . obtain ⟨g1, rfl⟩ : ∃ g, yv = some ⟨g, 0, none⟩ := HYV.out.resolve_left (by omega)
     obtain ⟨g2, rfl⟩ : ∃ g, ye = some ⟨g, 0, none⟩ := HYE.out.resolve_left (by omega)
     obtain ⟨e, he⟩ : ∃ e, x.es[k]? = some e := ⟨_, List.getElem?_eq_getElem hlt⟩
     obtain ⟨c1, c2⟩ := aKG HA.out.v k e he
     obtain ⟨c3, c4⟩ := aKG HA.out.m.e k e he
     have cE := HA.out.h.cE
     have z1 := beq_self_eq_true e.1
     have z2 := beq_self_eq_true e.2
     have z3 := fP e.1
     have z4 := fP e.2
     have HHL := Hd hll
     clear he hll
     go_upto_region 8 with (fail)
     go_region
     all_goals
      clear c1 c2 c3 c4 cE z1 z2 z3 z4
      have HA := Hd (HA.out.below (jQ (aH _)))
      generalize World.drew _ = wd at *
      have hll := HHL.out
      go_wp2_with fail
      go_roundw
      case rel => exact ⟨k + 1, by omega, by go_num, HA.out⟩
      case measure => simp [intOf]; omega
   . obtain rfl : k = x.es.length := by omega
     go_wp2_with fail
     go_loopw [8] (fun i wr => ∃ h : Int, -1 <= h /\ h <= 9 /\ i = .int .i64 h /\ aB3 w wr w.heap.size q B x (.slice (some ⟨gk, 0, none⟩) B.c capk) (.slice ye x.es.length cape) (.slice yv x.es.length capv)) (fun i wr => (9 - intOf i).toNat)
     case atStart => exact ⟨-1, by omega, by omega, rfl, HA.out⟩
     case round =>
      clear HA
      obtain ⟨h, h0, h9, rfl, A⟩ := hrel
      have HA := Hd A
      clear A
      by_cases hlt : h < 9
      . obtain ⟨X1, hX1⟩ : ∃ X, oL B.n x.D h = X := ⟨_, rfl⟩
        obtain ⟨Y1, hY1⟩ : ∃ X, oR x.ti B.n x.D h = X := ⟨_, rfl⟩
        have CC := Hd (fun w' (a : aZ w' B x) => by have := xT B x h w' a; rw [hX1] at this; exact this)
        have CL := Hd (fun w' (a : aZ w' B x) => by have := aFN B x h w' a; rw [hY1] at this; exact this)
        have RC := Hd (fun w' => by have := yN h x.ti B.n x.D x.S w' HOK.out.n8 HOK.out.d; rw [hX1] at this; exact this)
        have RL := Hd (fun w' => by have := aCz h x.ti B.n x.D x.S w' HOK.out.n8 HOK.out.d; rw [hY1] at this; exact this)
        have z1 := fP X1
        have z2 := aDP Y1
        have lN := HA.out.h.lt
        have hg := bC
        have hf := dE
        clear hX1 hY1
        go_upto_region 13 with (fail)
        refine wp_region_quiet_below (by kernel_rfl) (by kernel_rfl) ?_
        repeat (first
         | go_big_quiet_skip
         | (go_big_quiet_want; first
             | (refine aDu (.tmp 71) rfl rfl HA.out.h.grown ?_; go_simp; go_big_quiet_on)
             | (refine aDu (.tmp 80) rfl rfl HA.out.h.grown ?_; go_simp; go_big_quiet_on)
             | (go_big_quiet_op; first
                 | go_big_quiet_on
                 | go_big_quiet_call (first
                    | (go_at_call 22; exact Calls.regrown_of (CC.out _ (HA.out.b.below (below_regrown wr _ _))))
                    | (go_at_call 45; exact Calls.regrown_of (CL.out _ (HA.out.b.below (below_regrown wr _ _))))
                    | (go_at_call 46; exact Calls.regrown_of (RC.out _))
                    | (go_at_call 18; exact Calls.regrown_of (RL.out _))))))
        refine wpQuiet_nil ?_
        intro _ hw'
        obtain ⟨⟨dq, osq⟩, hw''⟩ := hw'
        subst hw''
        have HA := Hd (HA.out.below (below_regrown wr dq osq))
        clear lN
        generalize grow (redrawn wr dq) osq = w5 at *
        clear z1 z2 CC CL RC RL
        go_wp2_with fail
        go_roundw
        case rel => exact ⟨h + 1, by omega, by omega, by go_num, HA.out⟩
        case measure => simp [intOf]; omega
      . obtain rfl : h = 9 := by omega
        go_wp2_with fail
        go_loopw [9] (fun i wr => ∃ j : Int, 0 <= j /\ j <= 4 /\ i = .int .u32 (4 * j) /\ aB3 w wr w.heap.size q B x (.slice (some ⟨gk, 0, none⟩) B.c capk) (.slice ye x.es.length cape) (.slice yv x.es.length capv)) (fun i wr => (16 - intOf i).toNat)
        case atStart => exact ⟨0, by omega, by omega, rfl, HA.out⟩
        case round =>
         clear HA
         obtain ⟨j, j0, j4, rfl, A⟩ := hrel
         have HA := Hd A
         clear A
         by_cases hlt : j < 4
         . have q1 : 4 * j < 16 := by omega
           obtain ⟨V, hV⟩ : ∃ X, x.ldv B.n B.c (268632064 + 4 * j) = X := ⟨_, rfl⟩
           obtain ⟨E, hE⟩ : ∃ X, Bx.lde B.n B.c (268632064 + 4 * j) = X := ⟨_, rfl⟩
           have CL := Hd (fun w' (a : aZ w' B x) => by have := aCE B x (268632064 + 4 * j) w' a (by omega) (by omega); rw [hV, hE] at this; exact this)
           have RL := Hd (fun w' (M : MV w' B.c x (.slice (some ⟨gk, 0, none⟩) B.c capk) (.slice ye x.es.length cape)) => by have := aKw B.n B.c x _ _ (268632064 + 4 * j) w' M HOK.out (by omega) (by omega); rw [hV, hE] at this; exact this)
           have z1 := fP V
           have z2 := fP E
           clear hV hE
           go_wp2_with fail
           refine (CL.out _ HA.out.b).mono ?_
           rintro e w6 ⟨rfl, hb⟩
           have HA := Hd (HA.out.below hb)
           clear hb CL
           go_wp2_with (refine dU rfl (.tmp 3) rfl rfl HA.out.h ?_)
           refine (RL.out _ HA.out.m).mono ?_
           rintro e w7 ⟨rfl, hb⟩
           have HA := Hd (HA.out.below hb)
           clear hb RL
           go_wp2_with fail
           go_roundw
           case rel => exact ⟨j + 1, by omega, by omega, by go_num, HA.out⟩
           case measure => simp [intOf]; omega
         . obtain rfl : j = 4 := by omega
           go_upto_region 22 with (fail)
           have HA := Hd (HA.out.below (jQ (aH _)))
           refine wp_region_held_drew (S := fun w' => eY w' w.heap.size B.n x (.slice (some ⟨gk, 0, none⟩) B.c capk) (.slice ye x.es.length cape)) (by kernel_rfl) HA.out.h (fun _ => ?_)
           generalize World.drew _ = wd at *
           refine cW (i := 0) (v := .pointer (some ⟨B.b, 0, none⟩)) HA.out.h ?_
           try simp only [Act.put, bN, bP, bO]
           refine cW (i := 2) (v := .pointer (some ⟨w.heap.size, 26, none⟩)) HA.out.h ?_
           try simp only [Act.put, bN, bP, bO]
           refine qM (i := 3) (v := .slice (some ⟨gk, 0, none⟩) B.c capk) rfl (by kernel_rfl) (fun _ _ _ h => h) (fun w' hSw => by have c := eY.cB hSw; clear hSw; go_simp) HA.out.h ?_
           try simp only [Act.put, bN, bP, bO]
           refine lU (i := 1) (by kernel_rfl) rfl fun K hK => ?_
           go_simp
           go_wp2_with (go_at_call 91; refine (aK5 B x _ HA.out.b).mono ?_; rintro e wa ⟨p1, g1, q1, rfl, h1, hb⟩; have HA := Hd (HA.out.below hb); have HP := Hd h1; clear hb h1)
           refine hK.out _ _ HA.out.h (fun _ => ?_)
           clear hK K
           refine lU (i := 4) (by kernel_rfl) rfl fun K hK => ?_
           go_simp
           go_wp2_with (go_at_call 90; refine ((fun r => aK2 HP.out r) (show eD wa gk B.c capk x.tm from by obtain ⟨g, cap, h, hr⟩ := HA.out.m.k; injection h with h1 h2 h3; injection h1 with h1; injection h1 with h1; subst h1; subst h3; exact hr)).mono ?_; rintro e wb ⟨rfl, hb⟩; have HA := Hd (HA.out.below hb); clear hb HP)
           refine hK.out _ _ HA.out.h (fun _ => ?_)
           clear hK K
           refine cW (i := 5) (v := .bool true) HA.out.h ?_
           try simp only [Act.put, bN, bP, bO]
           refine cW (i := 6) (v := .pointer (some ⟨B.b, 0, none⟩)) HA.out.h ?_
           try simp only [Act.put, bN, bP, bO]
           refine cW (i := 8) (v := .pointer (some ⟨w.heap.size, 27, none⟩)) HA.out.h ?_
           try simp only [Act.put, bN, bP, bO]
           refine qM (i := 9) (v := .agg (vl x.wd).toArray) rfl (by kernel_rfl) (fun _ _ _ h => h) (fun w' hSw => aJC (.tmp 120) rfl rfl hSw) HA.out.h ?_
           try simp only [Act.put, bN, bP, bO]
           refine lU (i := 7) (by kernel_rfl) rfl fun K hK => ?_
           go_simp
           go_wp2_with (go_at_call 93; refine (aNl B x _ HA.out.b).mono ?_; rintro e wc ⟨p2, rfl, h1, hb⟩; have HA := Hd (HA.out.below hb); have HP := Hd h1; clear hb h1)
           refine hK.out _ _ HA.out.h (fun _ => ?_)
           clear hK K
           refine lU (i := 10) (by kernel_rfl) rfl fun K hK => ?_
           go_simp
           go_wp2_with (go_at_call 92; refine (aLM x.wd p2 _ HOK.out.wd HP.out).mono ?_; rintro e wd2 ⟨rfl, hb⟩; have HA := Hd (HA.out.below hb); clear hb HP)
           refine hK.out _ _ HA.out.h (fun _ => ?_)
           clear hK K
           refine cW (i := 11) (v := .bool true) HA.out.h ?_
           try simp only [Act.put, bN, bP, bO]
           refine cW (i := 12) (v := .bool true) HA.out.h ?_
           try simp only [Act.put, bN, bP, bO]
           refine cW (i := 13) (v := .pointer (some ⟨B.b, 0, none⟩)) HA.out.h ?_
           try simp only [Act.put, bN, bP, bO]
           refine cW (i := 15) (v := .pointer (some ⟨w.heap.size, 69, none⟩)) HA.out.h ?_
           try simp only [Act.put, bN, bP, bO]
           refine qM (i := 16) (v := .agg (kl x.rk).toArray) rfl (by kernel_rfl) (fun _ _ _ h => h) (fun w' hSw => aJB (.tmp 127) rfl rfl hSw) HA.out.h ?_
           try simp only [Act.put, bN, bP, bO]
           refine lU (i := 14) (by kernel_rfl) rfl fun K hK => ?_
           go_simp
           go_wp2_with (go_at_call 95; refine (aNo B x _ HA.out.b).mono ?_; rintro e we ⟨p3, rfl, h1, hb⟩; have HA := Hd (HA.out.below hb); have HP := Hd h1; clear hb h1)
           refine hK.out _ _ HA.out.h (fun _ => ?_)
           clear hK K
           refine lU (i := 17) (by kernel_rfl) rfl fun K hK => ?_
           go_simp
           go_wp2_with (go_at_call 94; refine (aLa x.rk p3 _ HOK.out.rk HP.out).mono ?_; rintro e wf ⟨rfl, hb⟩; have HA := Hd (HA.out.below hb); clear hb HP)
           refine hK.out _ _ HA.out.h (fun _ => ?_)
           clear hK K
           refine cW (i := 18) (v := .bool true) HA.out.h ?_
           refine cW (i := 19) (v := .bool true) HA.out.h ?_
           refine wpAnyH_done (by kernel_rfl) ?_ _
           go_wp2_with fail
           go_ret
           exact ⟨rfl, HA.out.lo⟩
end Go.Proofs.YtaohacadochldaaGreat.B
