/- A part of the proof of a law of layer 12: by. -/
import Derived.Test.YtpojmmgokgamgaaGreatZYbx
set_option linter.unusedVariables false
set_option linter.unusedSimpArgs false
set_option maxHeartbeats 12800000
set_option maxRecDepth 100000
namespace Go.Proofs.YtpojmmgokgamgaaGreat.B
open Go.Proofs.Tryz
open Go.ChangeShapes Go.WideShapes Go.RowKit Go.Sort Go.MapKept
def kp0 : Pt := pt0 (rH 1) [3, 5]
def kp1 : Pt := kp0.ldp
def kp2 : Pt := kp1.ldp
def kp3 : Pt := kp2.ldp
theorem aOy : ∀ g ∈ ([3, 5] : List Int), 0 <= g /\ g < 4294967296 := fun g h => by
 rcases List.mem_cons.1 h with rfl | h
 . decide
 . rcases List.mem_cons.1 h with rfl | h
   . decide
   . cases h
theorem aOD : kp0.ok 0 := aKL _ _ (aCw 1) (Nat.le_refl _) (by decide) aOy
theorem aOS : kp1.x.ti = 3 := by decide +kernel
theorem aNN : kp2.x.ti = 8 := by decide +kernel
theorem aMy : kp3.x.ti = 11 := by decide +kernel
theorem aNF : kp3.sp = 11 := by decide +kernel
theorem aDS (w : World) : Calls prog 9 #[] w fun e w' => e = .returned (.bool true) /\ Below w.heap.size w w' := by
 have HNW := Hd (aFE 1 1 1 w (by decide) (by decide) (by decide) (by decide) (by decide) (by decide))
 go_enter func9, ntmps9
 go_wp2_with fail
 refine (HNW.out).mono ?_
 rintro e w1 ⟨B, rfl, h1, hb, h3, h7, h8, h9⟩
 have HH := Hd h1
 have HB := Hd hb
 have HNE := Hd h3
 clear h1 hb h3 h7 h8 h9 HNW
 go_wp2_with fail
 have hbx := aE (aI w1) (.cells #[.int .u32 3, .int .u32 5] tU (0, 0))
 have hga : kY 0 (w1.alloc (.cells #[.int .u32 3, .int .u32 5] tU (0, 0))) (.slice (some ⟨w1.heap.size, 0, none⟩) 2 2) [3, 5] :=
  ⟨_, _, rfl, Nat.le_refl _, by unfold maxLen; decide, .inr ⟨_, 0, rfl, lt_of_block (aD w1 _), .inr (by rw [bP (aD w1 _)]; decide), fun i g hi => by
   rw [aA (aD w1 _)]
   match i, hi with
   | 0, hi => simp at hi; subst hi; rfl
   | 1, hi => simp at hi; subst hi; rfl
   | i + 2, hi => simp at hi⟩⟩
 refine (aNq B (rH 1) 0 _ [3, 5] _ (HH.out.below hbx) (aCw 1) hga (by decide)).mono ?_
 rintro e w2 ⟨q, gv, rfl, hq, hp, hb⟩
 have HQ := Hd (show w.heap.size <= q from Nat.le_trans (tr HB.out hbx).size hq)
 have HB := Hd (tr HB.out (tr hbx hb))
 have HH := Hd (show aY w2 q B kp0 gv from hp)
 have HOK := Hd aOD
 clear hbx hga hq hp hb
 go_wp2_with fail
 refine (aDT q B kp0 gv 0 268632064 w2 HH.out HOK.out (by decide) (by decide) (by decide)).mono ?_
 rintro e w3 ⟨rfl, hL⟩
 have HS := Hd HH.out.bd.still
 obtain ⟨C1, LC⟩ := hL.lp HH.out HNE.out HQ.out HB.out.size
 have HOK := Hd (show kp1.ok 1 from Pt.ldp_ok HOK.out HS.out (by decide))
 have HH := Hd (show aY w3 q C1 kp1 gv from LC.h)
 have HE := Hd (LC.e)
 have HB := Hd (HB.out.trans LC.lo)
 have HNE := Hd LC.nw
 clear hL LC HS
 go_wp2_with fail
 have HT := Hd (yK C1 kp1.x _ HH.out.bd)
 rw [HE.out, aOS] at HT
 refine (HT.out).mono ?_
 rintro e w4 ⟨rfl, hb⟩
 have HH := Hd (HH.out.below hb)
 have HB := Hd (tr HB.out hb)
 clear hb HT
 go_wp2_with fail
 refine (aDT q C1 kp1 gv 1 268632064 w4 HH.out HOK.out (by decide) (by decide) (by decide)).mono ?_
 rintro e w5 ⟨rfl, hL⟩
 have HS := Hd HH.out.bd.still
 obtain ⟨C2, LC⟩ := hL.lp HH.out HNE.out HQ.out HB.out.size
 have HOK := Hd (show kp2.ok 2 from Pt.ldp_ok HOK.out HS.out (by decide))
 have HH := Hd (show aY w5 q C2 kp2 gv from LC.h)
 have HE := Hd (LC.e.trans HE.out)
 have HB := Hd (HB.out.trans LC.lo)
 have HNE := Hd LC.nw
 clear hL LC HS
 go_wp2_with fail
 have HT := Hd (yK C2 kp2.x _ HH.out.bd)
 rw [HE.out, aNN] at HT
 refine (HT.out).mono ?_
 rintro e w6 ⟨rfl, hb⟩
 have HH := Hd (HH.out.below hb)
 have HB := Hd (tr HB.out hb)
 clear hb HT
 go_wp2_with fail
 refine (aDT q C2 kp2 gv 2 268632064 w6 HH.out HOK.out (by decide) (by decide) (by decide)).mono ?_
 rintro e w7 ⟨rfl, hL⟩
 have HS := Hd HH.out.bd.still
 obtain ⟨C3, LC⟩ := hL.lp HH.out HNE.out HQ.out HB.out.size
 have HOK := Hd (show kp3.ok 3 from Pt.ldp_ok HOK.out HS.out (by decide))
 have HH := Hd (show aY w7 q C3 kp3 gv from LC.h)
 have HE := Hd (LC.e.trans HE.out)
 have HB := Hd (HB.out.trans LC.lo)
 have HNE := Hd LC.nw
 clear hL LC HS
 go_wp2_with fail
 have HT := Hd (yK C3 kp3.x _ HH.out.bd)
 rw [HE.out, aMy] at HT
 refine (HT.out).mono ?_
 rintro e w8 ⟨rfl, hb⟩
 have HH := Hd (HH.out.below hb)
 have HB := Hd (tr HB.out hb)
 clear hb HT
 go_wp2_with fail
 have HT := Hd (aG9 q C3 kp3 gv w8 HH.out)
 rw [aNF] at HT
 refine (HT.out).mono ?_
 rintro e w9 ⟨rfl, hb⟩
 have HB := Hd (tr HB.out hb)
 clear hb HT
 go_wp2_with fail
 go_ret
 exact ⟨rfl, HB.out⟩
section
variable {w0 w w' : World} {p n c : Nat} {d : Int} {C : Bp} {y : Bx} {bk ev : Value}
end
theorem aKX (k b : Nat) (w : World) : (Op.equalIn (k + 1) 27 (.pointer (some ⟨b, 0, none⟩)) (.pointer (some ⟨b, 0, none⟩))).run prog w = .ok true w := by
 simp [Op.equalIn, run_underlying underlying27, sameAddr]
theorem aPG (b : Nat) (w : World) : (Op.equal 27 (.pointer (some ⟨b, 0, none⟩)) (.pointer (some ⟨b, 0, none⟩))).run prog w = .ok true w := aKX 9999 b w
theorem aMx (b : Nat) (w : World) : (binOp .neq 27 (.pointer (some ⟨b, 0, none⟩)) (.pointer (some ⟨b, 0, none⟩))).run prog w = .ok (.bool false) w := by
 simp only [binOp]
 simp [aPG]
theorem aEd (n c g l k lc : Nat) (x : Bx) (y : Option Addr) (y2 : Option Addr) (l2 k2 : Nat) (gs : List Int) (w : World) : (Instr.build 54 #[(0, .agg (ml n x (.slice (some ⟨g, 0, none⟩) c k) (.slice y2 l2 k2)).toArray), (1, .slice y l lc)]).run prog w = .ok (.agg (pl n ⟨x, gs, 0, 0, 0⟩ (.slice (some ⟨g, 0, none⟩) c k) (.slice y2 l2 k2) (.slice y l lc)).toArray) w := by kernel_rfl
theorem aCB {ops : Array Oper} {rest : List Oper} {o : Oper} {a : Act} {w : World} {Q : Exit -> Act -> World -> Prop} (hgd : o.guard = none) (x y : Operand) (ho : o.op = .build 54 #[(0, x), (1, y)]) (n c g l k lc : Nat) (z : Bx) (yy : Option Addr) (y2 : Option Addr) (l2 k2 : Nat) (gs : List Int)
 (hx : a.eval x = .agg (ml n z (.slice (some ⟨g, 0, none⟩) c k) (.slice y2 l2 k2)).toArray) (hy : a.eval y = .slice yy l lc)
 (h : wpList prog ops Q rest (a.put o.dst (.agg (pl n ⟨z, gs, 0, 0, 0⟩ (.slice (some ⟨g, 0, none⟩) c k) (.slice y2 l2 k2) (.slice yy l lc)).toArray)) w) : wpList prog ops Q (o :: rest) a w :=
 wpList_plain hgd fun _ hK => by
  have hrun := aEd n c g l k lc z yy y2 l2 k2 gs w
  unfold Oper.wp execOp
  simp only [ho, List.map_toArray, List.map_cons, List.map_nil, hx, hy, Sem.run_bind, hrun, Result.andThen_ok]
  exact hK _ _ h
structure P12 (w0 w : World) (b n c k q : Nat) (C : Bp) (p : Pt) (gv bk ev dv : Value) : Prop where
 bo : Bo w0.heap.size n c k w q C p gv bk ev dv
 N : QP w b n p bk ev dv
 lo : Below w0.heap.size w0 w
 hp : w0.heap.size <= b
theorem P12.below {w0 w w' : World} {b n c k q : Nat} {C : Bp} {p : Pt} {gv bk ev dv : Value} (P : P12 w0 w b n c k q C p gv bk ev dv) (hb : Below w.heap.size w w') : P12 w0 w' b n c k q C p gv bk ev dv := ⟨P.bo.below hb, P.N.below hb, tr P.lo hb, P.hp⟩
theorem aDs (w w5 w6 : World) (n c q : Nat) (B : Bp) (x0 : Bx) (gs : List Int) (gv bk ev dv : Value) (HP : aY w5 q B ⟨x0, gs, 0, 0, 0⟩ gv) (hnw : B.new w.heap.size) (hsq : w.heap.size <= q) (he : B.n = n /\ B.c = c) (M : MV w5 c x0 bk ev) (G : kY w.heap.size w5 dv gs) (hb : Below w.heap.size w w5)
 (hx : x0.told /\ x0.es.length = 0) (hl : gs.length <= 64) (hg : ∀ g ∈ gs, 0 <= g /\ g < 4294967296) (hq : QP w6 w5.heap.size n ⟨x0, gs, 0, 0, 0⟩ bk ev dv) (hb6 : Below w5.heap.size w5 w6) : P12 w w6 w5.heap.size n c 0 q B ⟨x0, gs, 0, 0, 0⟩ gv bk ev dv :=
 ⟨⟨HP.below hb6, hnw, hsq, he.1, he.2, ⟨M.below hb6, G.below hb6, by have := HP.bd.ok; rw [he.1, he.2] at this; exact this, HP.bd.still, ⟨hx.1, Nat.zero_le _, by rw [hx.2]; exact Nat.le_refl _, Nat.le_refl _, Int.le_refl _, (by show (0 : Int) <= ((0 : Nat) : Int) * 4294967295; omega), hl, hg⟩, by omega, Nat.le_trans hb.size hb6.size⟩⟩, hq, tr hb hb6, hb.size⟩
theorem aBU (w : World) (n c : Nat) (d : Int) (n0 : 1 <= n) (n8 : n <= 8) (c0 : 1 <= c) (c8 : c <= 8) (d0 : 1 <= d) (d1 : d < 4294967296) (gy : Option Addr) (gl gc : Nat) (hg : zA w gy gl gc) (hgl : gl <= 64) (y : Option Addr) (len cap : Nat) (hy : aGD w y len cap) :
 Calls prog 3 #[.agg #[.int .i64 n, .int .i64 c, .int .u32 d], .slice gy gl gc, .slice y len cap] w fun e w' => e = .returned (.bool true) /\ Below w.heap.size w w' := by
 have HY := Hd hy
 have HNEW := Hd (fun w' => aFE n c d w' n0 n8 c0 c8 d0 d1)
 have HRT := Hd (fun w' => xH n c d w' (by omega) (by omega) (by omega) (by omega) (by omega))
 have HYN := Hd (fun w' => aPD n c d w' n8 c8)
 have HC := Hd (show (w.alloc (cfO n c d)).heap[w.heap.size]? = some (cfO n c d) from aD w _)
 have HB := Hd (aE (aI w) (cfO n c d))
 obtain ⟨gs, hgn, hgb, hga⟩ := hg.gaps (aI w) gl (Nat.le_refl _)
 have hcut := aJB gy gl gc gl (Nat.le_refl _) hg.1
 subst hgn
 have hmin : min (gs.length : Int) 70 = (gs.length : Int) := by omega
 have hd64 : decide ((64 : Int) < gs.length) = false := decide_eq_false (by omega)
 have HG := Hd hga
 have HGB := Hd hgb
 have HGL := Hd hgl
 clear hy n0 n8 c0 c8 d0 d1 hg hgl hgb hga
 go_enter func3, ntmps3
 go_upto_region 1 with (fail)
 rw [show Obj.cells #[.int .i64 n, .int .i64 c, .int .u32 d] 24 (0, 0) = cfO n c d from rfl]
 generalize w.alloc (cfO n c d) = W at *
 have e0 := aA HC.out 0
 have e1 := aA HC.out 1
 have e2 := aA HC.out 2
 simp at e0 e1 e2
 go_upto_region 2 with (go_at_call 6; refine (HNEW.out _).mono ?_; rintro e w1 ⟨B, rfl, h1, hb, h3, h7, h8, h9⟩; have HH := Hd h1; have HNW := Hd (show B.new w.heap.size from fun k hk => Nat.le_trans HB.out.size (h3 k hk)); have HE := Hd (And.intro h7 h8); have HC := Hd (aC hb HC.out (lt_of_block HC.out)); have HB := Hd (tr HB.out hb); clear e0 e1 e2 h1 hb h3 h7 h8 h9 HNEW)
 have HG := Hd (HG.out.below HB.out)
 go_upto_region 3 with (fail)
 clear hcut hmin
 go_upto_region 4 with (go_at_call 7; refine (aNq B (rH d) w.heap.size _ gs _ HH.out (aCw d) HG.out HGL.out).mono ?_; rintro e w2 ⟨q, gv, rfl, hq, hp, hb⟩; have HSQ := Hd (Nat.le_trans HB.out.size hq); have HP := Hd hp; have HG := Hd (HG.out.below hb); have HC := Hd (aC hb HC.out (lt_of_block HC.out)); have HB := Hd (tr HB.out hb); clear hq hp hb HH)
 have e0 := aA HC.out 0
 have e1 := aA HC.out 1
 have e2 := aA HC.out 2
 simp at e0 e1 e2
 go_upto_region 6 with (go_at_call 8; refine (HRT.out _).mono ?_; rintro e w3 ⟨rfl, rfl⟩)
 clear HRT e0 e1 e2
 go_upto_region 8 with (fail)
 clear hd64
 have hne := aMx B.b
 go_upto_region 10 with (go_at_call 10; refine (xW q B _ gv _ HP.out).mono ?_; rintro e w4 ⟨rfl, hb⟩; have HP := Hd (HP.out.below hb); have HG := Hd (HG.out.below hb); have HC := Hd (aC hb HC.out (lt_of_block HC.out)); have HB := Hd (tr HB.out hb); clear hb)
 clear hne
 have e0 := aA HC.out 0
 have e1 := aA HC.out 1
 have e2 := aA HC.out 2
 simp at e0 e1 e2
 have HP := Hd (show aY w4 q B ⟨rH d, gs, 0, 0, 0⟩ gv from HP.out)
 have HX0 := Hd (And.intro (aCw d) (show (rH d).es.length = 0 from rfl))
 go_upto_region 11 with (first | (go_at_call 11; refine (HYN.out _).mono ?_; rintro e w5 ⟨bk, ev, rfl, M, hb⟩; clear HYN; generalize rH d = x0 at *; have hbd := M.k; obtain ⟨gk, capk, rfl, hj1⟩ := hbd; obtain ⟨ye, cape, rfl, hj2⟩ := oW M.e; clear hj1 hj2; have HM := Hd M; have HP := Hd (HP.out.below hb); have HG := Hd (HG.out.below hb); have HB := Hd (tr HB.out hb); rw [HX0.out.2] at HM ⊢; clear M hb e0 e1 e2) | (refine aCB rfl (.tmp 86) (.tmp 87) rfl n c gk gs.length capk gc x0 gy ye 0 cape gs rfl rfl ?_) | (rw [cU]; refine zG rfl (.tmp 11) (.tmp 88) rfl rfl ⟨x0, gs, 0, 0, 0⟩ (.slice (some ⟨gk, 0, none⟩) c capk) (.slice ye 0 cape) (.slice gy gs.length gc) n rfl (ZP.new w5 (aD w5 fY)) ⟨rfl, rfl, rfl⟩ ?_; intro w6 hq6 ho6; have hb6 := aF.toBelow (aE (aI w5) fY) ho6 (fun k hk e => by omega) (Nat.le_refl _); have HQ := Hd (aDs w w5 w6 n c q B x0 gs gv _ _ _ HP.out HNW.out HSQ.out HE.out HM.out HG.out HB.out HX0.out HGL.out HGB.out hq6 hb6); clear hq6 ho6 hb6))
 clear HP HG HB HC HM HX0 HGL HGB HSQ HNW HE
 generalize w5.heap.size = pb at *
 generalize (⟨x0, gs, 0, 0, 0⟩ : Pt) = p0 at *
 go_wp2_with fail
 go_loopw [9, 12] (fun l i wr => ∃ (k q : Nat) (C : Bp) (p : Pt) (gv bk ev dv : Value), k <= len /\ k <= 60 /\ i = .int .i64 k /\ l = .pointer (some ⟨q, 0, none⟩) /\ P12 w wr pb n c k q C p gv bk ev dv) (fun l i wr => len - (intOf i).toNat)
 case atStart => exact ⟨0, q, B, p0, gv, _, _, _, by omega, by omega, rfl, rfl, HQ.out⟩
 case round =>
  clear HQ
  obtain ⟨k, q, C, p, gv, bk, ev, dv, hk, hkl, rfl, rfl, P⟩ := hrel
  have HP := Hd P
  clear P
  by_cases hlt : k < len /\ k < 60
  . obtain ⟨hlt, hlm⟩ := hlt
    rcases HY.out with hy | ⟨z, off, rfl, hlc, hcm, hbl, hz⟩
    . omega
    unfold maxLen at hcm
    obtain ⟨K, a, v, ay, al, ac, N, c0, c1, c2, c3, c4, hraw, hK, ⟨a0, a1⟩, ⟨v0, v1⟩, ⟨n0, n1⟩⟩ := hz k (by omega)
    rw [<- HP.out.lo.cell (p := ⟨z, _, none⟩) (by simpa using hbl)] at c0 c1 c2 c3 c4
    clear hz
    have hbw : z < wr.heap.size := by have := HP.out.lo.size; omega
    obtain ⟨g7, hg7⟩ : ∃ g7, min al 70 = g7 := ⟨_, rfl⟩
    have hgl7 : g7 <= al := by omega
    have hmin : min (al : Int) 70 = (g7 : Int) := by omega
    have hcut := aJB ay al ac g7 hgl7 hraw.1
    have HRW := Hd hraw
    have HG7 := Hd hgl7
    clear hraw hg7 hgl7 hK
    go_upto_region 17 with (fail)
    rw [show Obj.cells #[.int .i64 K, .int .u32 a, .int .u32 v, .slice ay g7 ac, .int .u64 N] 56 (0, 0) = jC K a v (.slice ay g7 ac) N from rfl]
    have HA := Hd (aD wr (jC K a v (.slice ay g7 ac) N))
    have HP := Hd (HP.out.below (aE (aI wr) (jC K a v (.slice ay g7 ac) N)))
    generalize wr.alloc (jC K a v (.slice ay g7 ac) N) = W1 at *
    generalize wr.heap.size = ab at *
    clear c0 c1 c2 c3 c4 hmin hcut hbw hcm hlc hbl
    obtain ⟨gsA, hgn, hgb, hga⟩ := HRW.out.gaps HP.out.lo g7 HG7.out
    subst hgn
    have HGA := Hd hga
    have HGG := Hd hgb
    have c0 : W1.cell? ⟨ab, 0, none⟩ = some (.int .i64 K) := by have := aA HA.out 0; simpa using this
    have c1 : W1.cell? ⟨ab, 1, none⟩ = some (.int .u32 a) := by have := aA HA.out 1; simpa using this
    have c2 : W1.cell? ⟨ab, 2, none⟩ = some (.int .u32 v) := by have := aA HA.out 2; simpa using this
    have c3 : W1.cell? ⟨ab, 3, none⟩ = some (.slice ay gsA.length ac) := by have := aA HA.out 3; simpa using this
    have c4 : W1.cell? ⟨ab, 4, none⟩ = some (.int .u64 N) := by have := aA HA.out 4; simpa using this
    clear hgb hga
    go_upto_region 18 with (first | (refine pY rfl (.tmp 11) rfl rfl HP.out.N ?_) | (go_at_call 12; refine (show Calls _ _ _ _ _ from aO0 ⟨HP.out.bo, by omega, HGA.out, HGG.out, n0, n1, a0, a1, v0, v1⟩).mono ?_; rintro e W2 ⟨q', C', p', gv', bk', ev', dv', rfl, hbo, hlo, hkq⟩; have HBO := Hd hbo; have HN := Hd (HP.out.N.kq hkq); have HLO := Hd (HP.out.lo.trans hlo); have HPB := Hd HP.out.hp; clear hbo hlo hkq HP c0 c1 c2 c3 c4) | (refine zG rfl (.tmp 11) (.tmp 117) rfl rfl p' bk' ev' dv' n rfl HN.out.z ⟨HBO.out.F.M.one.1, HBO.out.F.M.one.2, HBO.out.F.G.one⟩ ?_; intro W3 hq3 ho3; have HP := Hd (show P12 w W3 pb n c (k + 1) q' C' p' gv' bk' ev' dv' from ⟨HBO.out.offP ho3 HN.out HPB.out, hq3, aF.toBelow HLO.out ho3 (fun j hj e => by have := HPB.out; omega) (Nat.le_refl _), HPB.out⟩); clear hq3 ho3 HBO HN HLO HPB))
    have AL := Hd (fun w' (P : P12 w w' pb n c (k + 1) q' C' p' gv' bk' ev' dv') => by have := aC4 q' C' p' gv' w.heap.size (k + 1) bk' ev' dv' w' P.bo.H (by rw [P.bo.en, P.bo.ec]; exact P.bo.F); rw [P.bo.en] at this; exact this)
    go_wp2_with (first | (refine aOJ (.tmp 11) rfl (by kernel_rfl) rfl HP.out.N ?_) | (go_at_call 13; refine (AL.out _ HP.out).mono ?_; rintro e W4 ⟨rfl, hb⟩; have HP := Hd (HP.out.below hb); clear hb))
    go_roundw
    case rel => exact ⟨k + 1, q', C', p', gv', bk', ev', dv', by omega, by omega, by go_num, rfl, HP.out⟩
    case measure => simp [intOf]; omega
  . by_cases hlt2 : k < len
    all_goals
     go_wp2_with fail
     refine (aDS _).mono ?_
     rintro e w1 ⟨rfl, hb1⟩
     go_wp2_with fail
     go_ret
     exact ⟨rfl, tr HP.out.lo hb1⟩
theorem vP {P : Prop} (h : P := by
 go_wp2_with fail
 refine (aDS _).mono ?_
 rintro e w1 ⟨rfl, hb1⟩
 go_wp2_with fail
 go_ret
 exact ⟨rfl, tr HB.out hb1⟩
 ) : P := h
theorem uO (w : World) (n c : Nat) (d : Int) (n0 : 1 <= n) (n8 : n <= 8) (c0 : 1 <= c) (c8 : c <= 8) (d0 : 1 <= d) (d1 : d < 4294967296) (gy : Option Addr) (gl gc : Nat) (hg : zA w gy gl gc) (hgl : 64 < gl) (y : Option Addr) (len cap : Nat) :
 Calls prog 3 #[.agg #[.int .i64 n, .int .i64 c, .int .u32 d], .slice gy gl gc, .slice y len cap] w fun e w' => e = .returned (.bool true) /\ Below w.heap.size w w' := by
 have HNEW := Hd (fun w' => aFE n c d w' n0 n8 c0 c8 d0 d1)
 have HRT := Hd (fun w' => xH n c d w' (by omega) (by omega) (by omega) (by omega) (by omega))
 have HC := Hd (show (w.alloc (cfO n c d)).heap[w.heap.size]? = some (cfO n c d) from aD w _)
 have HB := Hd (aE (aI w) (cfO n c d))
 obtain ⟨g7, hg7⟩ : ∃ g7, min gl 70 = g7 := ⟨_, rfl⟩
 have hcut := aJB gy gl gc g7 (by omega) hg.1
 have hmin : min (gl : Int) 70 = (g7 : Int) := by omega
 have hm : 64 < g7 := by omega
 have hd64 : decide ((64 : Int) < g7) = true := decide_eq_true (by omega)
 clear n0 n8 c0 c8 d0 d1 hg hgl hg7
 go_enter func3, ntmps3
 go_upto_region 1 with (fail)
 rw [show Obj.cells #[.int .i64 n, .int .i64 c, .int .u32 d] 24 (0, 0) = cfO n c d from rfl]
 generalize w.alloc (cfO n c d) = W at *
 have e0 := aA HC.out 0
 have e1 := aA HC.out 1
 have e2 := aA HC.out 2
 simp at e0 e1 e2
 go_upto_region 2 with (go_at_call 6; refine (HNEW.out _).mono ?_; rintro e w1 ⟨B, rfl, h1, hb, h3, h7, h8, h9⟩; have HC := Hd (aC hb HC.out (lt_of_block HC.out)); have HB := Hd (tr HB.out hb); clear e0 e1 e2 h1 hb h3 h7 h8 h9 HNEW)
 go_upto_region 3 with (fail)
 clear hcut hmin
 go_upto_region 4 with (go_at_call 7; refine (aHB B.b gy g7 gc _ hm).mono ?_; rintro e w2 ⟨rfl, hb⟩; have HC := Hd (aC hb HC.out (lt_of_block HC.out)); have HB := Hd (tr HB.out hb); clear hb)
 have e0 := aA HC.out 0
 have e1 := aA HC.out 1
 have e2 := aA HC.out 2
 simp at e0 e1 e2
 go_upto_region 6 with (go_at_call 8; refine (HRT.out _).mono ?_; rintro e w3 ⟨rfl, rfl⟩)
 exact vP
theorem aB9 (w : World) (n c d : Int) (d0 : 0 <= d) (hn : ¬ (1 <= n /\ n <= 8 /\ 1 <= c /\ c <= 8 /\ 0 < d)) (gy : Option Addr) (gl gc : Nat) (hg : zA w gy gl gc) (y : Option Addr) (len cap : Nat) :
 Calls prog 3 #[.agg #[.int .i64 n, .int .i64 c, .int .u32 d], .slice gy gl gc, .slice y len cap] w fun e w' => e = .returned (.bool true) /\ Below w.heap.size w w' := by
 have HNEW := Hd (fun w' => aI5 n c d w' d0 hn)
 have HRT := Hd (fun w' => aEk n c d w' hn)
 have HC := Hd (show (w.alloc (cfO n c d)).heap[w.heap.size]? = some (cfO n c d) from aD w _)
 have HB := Hd (aE (aI w) (cfO n c d))
 obtain ⟨g7, hg7⟩ : ∃ g7, min gl 70 = g7 := ⟨_, rfl⟩
 have hcut := aJB gy gl gc g7 (by omega) hg.1
 have hmin : min (gl : Int) 70 = (g7 : Int) := by omega
 clear hn d0 hg hg7
 go_enter func3, ntmps3
 go_upto_region 1 with (fail)
 rw [show Obj.cells #[.int .i64 n, .int .i64 c, .int .u32 d] 24 (0, 0) = cfO n c d from rfl]
 generalize w.alloc (cfO n c d) = W at *
 have e0 := aA HC.out 0
 have e1 := aA HC.out 1
 have e2 := aA HC.out 2
 simp at e0 e1 e2
 go_upto_region 2 with (go_at_call 6; refine (HNEW.out _).mono ?_; rintro e w1 ⟨rfl, hb⟩; have HC := Hd (aC hb HC.out (lt_of_block HC.out)); have HB := Hd (tr HB.out hb); clear e0 e1 e2 hb HNEW)
 go_upto_region 3 with (fail)
 clear hcut hmin
 go_upto_region 4 with (go_at_call 7; refine (aIu _ _).mono ?_; rintro e w2 ⟨rfl, hb⟩; have HC := Hd (aC hb HC.out (lt_of_block HC.out)); have HB := Hd (tr HB.out hb); clear hb)
 have e0 := aA HC.out 0
 have e1 := aA HC.out 1
 have e2 := aA HC.out 2
 simp at e0 e1 e2
 go_upto_region 5 with (go_at_call 8; refine (HRT.out _).mono ?_; rintro e w3 ⟨rfl, rfl⟩)
 exact vP
theorem wPortPlays (v0 v1 v2 : Value) (w : World) (h0 : FitsV w (.pair (.int .i64) (.pair (.int .i64) (.pair (.int .u32) .unit))) v0) (h1 : FitsV w (.slice (.int .u32)) v1) (h2 : FitsV w (.slice aFL) v2) :
 Calls prog 3 #[v0, v1, v2] w fun e w' => e = .returned (.bool true) /\ Below w.heap.size w w' := by
 obtain ⟨n, c, d, rfl, d0, d1⟩ := aFG h0
 obtain ⟨gy, gl, gc, rfl, hg⟩ := aBp h1
 obtain ⟨y, len, cap, rfl, hy⟩ := aBu h2
 by_cases hr : 1 <= n /\ n <= 8 /\ 1 <= c /\ c <= 8 /\ 0 < d
 . obtain ⟨n, rfl⟩ := Int.eq_ofNat_of_zero_le (show 0 <= n by omega)
   obtain ⟨c, rfl⟩ := Int.eq_ofNat_of_zero_le (show 0 <= c by omega)
   by_cases hl : gl <= 64
   . exact aBU w n c d (by omega) (by omega) (by omega) (by omega) (by omega) d1 gy gl gc hg hl y len cap hy
   . exact uO w n c d (by omega) (by omega) (by omega) (by omega) (by omega) d1 gy gl gc hg (by omega) y len cap
 . exact aB9 w n c d d0 hr gy gl gc hg y len cap
end Go.Proofs.YtpojmmgokgamgaaGreat.B
