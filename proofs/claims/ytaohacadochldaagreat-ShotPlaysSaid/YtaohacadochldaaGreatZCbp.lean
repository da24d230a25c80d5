/- A part of the proof of a law of layer 12: bp. -/
import Derived.Test.YtaohacadochldaaGreatZCbo
set_option linter.unusedVariables false
set_option linter.unusedSimpArgs false
set_option maxHeartbeats 12800000
set_option maxRecDepth 100000
namespace Go.Proofs.YtaohacadochldaaGreat.B
open Go.Proofs.Tryz
open Go.ChangeShapes Go.WideShapes Go.RowKit Go.Sort Go.MapKept
theorem QP.z {w : World} {b n : Nat} {p : Pt} {bk ev gv : Value} (h : QP w b n p bk ev gv) : ZP w b := ⟨_, h, by rw [List.size_toArray, gE]⟩
theorem jV.whole {w0 w w' : World} {b r n c s : Nat} {p p' : Pt} {bk ev bk' ev' gv : Value} (F : jV w0 w b r n c p bk ev gv s) (M' : MV w c p'.x bk' ev') (hg : p'.gs = p.gs) (h : QP w' b n p' bk' ev' gv) (ho : aF (· = b) w w') : jV w0 w' b r n c p' bk' ev' gv s :=
 ⟨h, F.z.off ho (fun e => F.ne e.symm), oF M' ho F.h, by rw [hg]; exact pX F.G (Nat.le_trans F.sb F.hb) ho F.h, aF.toBelow F.lo ho (fun k hk e => by have := F.hb; omega) (Nat.le_refl _), F.hb, F.hr, F.ne, F.sb⟩
theorem Fit.pass {s n c m : Nat} {p : Pt} {bk ev gv bk' ev' : Value} {w w' : World} (F : Fit s n c m p bk ev gv w) (M' : MV w' c p.pass.x bk' ev') (hb : Below w.heap.size w w') (hm : m + 1 < 4294967290) : Fit s n c (m + 1) p.pass bk' ev' gv w' :=
 have hg := Pt.gp_bounds F.po.gs
 have ht := Bx.tick_ok F.ok F.st (N := p.gp) hg.1 (by omega)
 ⟨M', F.G.below hb, ht.1, ht.2, Pt.pass_ok F.po F.st F.hm, hm, Nat.le_trans F.sb hb.size⟩
section
variable {s n c m b r : Nat} {p : Pt} {bk ev gv bk' ev' : Value} {w w' : World}
theorem Fit.dn0 (F : Fit s n c m p bk ev gv w) (G : jV w w' b r n c p bk' ev' gv s) {D : Bool} (h : p.dn = D) : Calls prog 48 #[.agg (pl n p bk' ev' gv).toArray] w' fun e w'' => e = .returned (.bool D) /\ Below w'.heap.size w' w'' := h ▸ aDU n c p bk' ev' gv w' G.M F.po.se
theorem Fit.dn1 (F : Fit s n c m p bk ev gv w) (G : jV w w' b r n c p.pass bk' ev' gv s) {D : Bool} (h : p.pass.dn = D) : Calls prog 48 #[.agg (pl n p.pass bk' ev' gv).toArray] w' fun e w'' => e = .returned (.bool D) /\ Below w'.heap.size w' w'' := h ▸ aDU n c p.pass bk' ev' gv w' G.M (Pt.pass_ok F.po F.st F.hm).se
theorem Fit.gap0 (F : Fit s n c m p bk ev gv w) (G : jV w w' b r n c p bk' ev' gv s) : Calls prog 69 #[.agg (pl n p bk' ev' gv).toArray] w' (aNb n c p.pass gv w') := aPd s n c m p bk' ev' gv w' ⟨G.M, G.G, F.ok, F.st, F.po, F.hm, Nat.le_trans G.sb G.lo.size⟩
theorem Fit.tk1 (F : Fit s n c m p bk ev gv w) : p.pass.x.ok n c /\ p.pass.x.still := have g := Pt.gp_bounds F.po.gs; Bx.tick_ok F.ok F.st (N := p.gp) g.1 (by omega)
end
theorem rG {P : Prop} (h : P := by
 exact bodyPost_ret (aOv rfl _ _ _ _ rfl rfl rfl HQ9.out) rfl ⟨_, _, rfl, HX.out⟩
 ) : P := h
theorem aLO (s n c m : Nat) (p : Pt) (bk ev gv : Value) (a : Int) (a0 : 0 <= a) (a1 : a < 4294967296) (w : World) (F : Fit s n c m p bk ev gv w) (hm : m < 4294967280) (h0 : p.dn = true) :
 Calls prog 36 #[.agg (pl n p bk ev gv).toArray, .int .u32 a] w (aDK n c p gv (.int .u32 0) (.int .i64 13) w) := by
 skip
 have HF := Hd (iI w n c p bk ev gv s F.sb F.M F.G)
 have HFO := Hd F
 have H0 := Hd h0
 clear F h0
 go_enter func36, ntmps36
 go_upto_region 1 with (fail)
 rw [cP, bH]
 generalize (w.alloc (fW n p bk ev gv)).alloc dI = W at *
 generalize w.heap.size + 1 = r at *
 generalize hbn : w.heap.size = b at *
 go_upto_region 6 with (first | (refine mN rfl (.tmp 2) rfl rfl HF.out.h ?_) | (go_at_call 48; refine (HFO.out.dn0 HF.out H0.out).mono ?_; rintro e w1 ⟨rfl, hb⟩; have HF := Hd (HF.out.below hb); clear hb))
 go_wp2_with (first | (refine mN rfl (.tmp 2) rfl rfl HF.out.h ?_) | (refine nD rfl (.tmp 4) (.tmp 27) rfl rfl (p) _ _ gv n rfl HF.out.z HF.out.one ?_; intro w9 hq9 ho9; have HX := Hd (gJ HF.out ho9); have HQ9 := Hd hq9; clear hq9 ho9))
 exact rG
theorem aLP (s n c m : Nat) (p : Pt) (bk ev gv : Value) (a : Int) (a0 : 0 <= a) (a1 : a < 4294967296) (w : World) (F : Fit s n c m p bk ev gv w) (hm : m < 4294967280) (h0 : p.dn = false) (h1 : p.pass.dn = true) :
 Calls prog 36 #[.agg (pl n p bk ev gv).toArray, .int .u32 a] w (aDK n c p.pass gv (.int .u32 0) (.int .i64 13) w) := by
 have H1 := Hd h1
 have HF := Hd (iI w n c p bk ev gv s F.sb F.M F.G)
 have HFO := Hd F
 have H0 := Hd h0
 clear F h0
 go_enter func36, ntmps36
 go_upto_region 1 with (fail)
 rw [cP, bH]
 generalize (w.alloc (fW n p bk ev gv)).alloc dI = W at *
 generalize w.heap.size + 1 = r at *
 generalize hbn : w.heap.size = b at *
 go_upto_region 2 with (first | (refine mN rfl (.tmp 2) rfl rfl HF.out.h ?_) | (go_at_call 48; refine (HFO.out.dn0 HF.out H0.out).mono ?_; rintro e w1 ⟨rfl, hb⟩; have HF := Hd (HF.out.below hb); clear hb))
 go_upto_region 3 with (first | (refine mN rfl (.tmp 2) rfl rfl HF.out.h ?_) | (go_at_call 69; refine (HFO.out.gap0 HF.out).mono ?_; rintro e w2 ⟨bk', ev', rfl, M', hb⟩; have HM := Hd M'; have HF := Hd (HF.out.below hb); clear M' hb) | (refine nD rfl (.tmp 2) (.tmp 13) rfl rfl p.pass bk' ev' gv n rfl HF.out.h.z ⟨HM.out.one.1, HM.out.one.2, HF.out.one.2.2⟩ ?_; intro w3 hq3 ho3; have HF := Hd (jV.whole (p' := p.pass) HF.out HM.out rfl hq3 ho3); clear hq3 ho3 HM))
 go_upto_region 6 with (first | (refine mN rfl (.tmp 2) rfl rfl HF.out.h ?_) | (go_at_call 48; refine (HFO.out.dn1 HF.out H1.out).mono ?_; rintro e w1 ⟨rfl, hb⟩; have HF := Hd (HF.out.below hb); clear hb))
 go_wp2_with (first | (refine mN rfl (.tmp 2) rfl rfl HF.out.h ?_) | (refine nD rfl (.tmp 4) (.tmp 27) rfl rfl (p.pass) _ _ gv n rfl HF.out.z HF.out.one ?_; intro w9 hq9 ho9; have HX := Hd (gJ HF.out ho9); have HQ9 := Hd hq9; clear hq9 ho9))
 exact rG
theorem aLQ (s n c m : Nat) (p : Pt) (bk ev gv : Value) (a : Int) (a0 : 0 <= a) (a1 : a < 4294967296) (w : World) (F : Fit s n c m p bk ev gv w) (hm : m < 4294967280) (h0 : p.dn = false) (h1 : p.pass.dn = false) :
 Calls prog 36 #[.agg (pl n p bk ev gv).toArray, .int .u32 a] w (aDK n c p.pass gv (.int .u32 (p.pass.x.ldv n c a)) (.int .i64 (Bx.lde n c a)) w) := by
 have H1 := Hd h1
 have HLD := Hd (fun bk ev w' M => aKw n c p.pass.x bk ev a w' M F.tk1.1 a0 a1)
 have HF := Hd (iI w n c p bk ev gv s F.sb F.M F.G)
 have HFO := Hd F
 have H0 := Hd h0
 clear F h0
 go_enter func36, ntmps36
 go_upto_region 1 with (fail)
 rw [cP, bH]
 generalize (w.alloc (fW n p bk ev gv)).alloc dI = W at *
 generalize w.heap.size + 1 = r at *
 generalize hbn : w.heap.size = b at *
 go_upto_region 2 with (first | (refine mN rfl (.tmp 2) rfl rfl HF.out.h ?_) | (go_at_call 48; refine (HFO.out.dn0 HF.out H0.out).mono ?_; rintro e w1 ⟨rfl, hb⟩; have HF := Hd (HF.out.below hb); clear hb))
 go_upto_region 3 with (first | (refine mN rfl (.tmp 2) rfl rfl HF.out.h ?_) | (go_at_call 69; refine (HFO.out.gap0 HF.out).mono ?_; rintro e w2 ⟨bk', ev', rfl, M', hb⟩; have HM := Hd M'; have HF := Hd (HF.out.below hb); clear M' hb) | (refine nD rfl (.tmp 2) (.tmp 13) rfl rfl p.pass bk' ev' gv n rfl HF.out.h.z ⟨HM.out.one.1, HM.out.one.2, HF.out.one.2.2⟩ ?_; intro w3 hq3 ho3; have HF := Hd (jV.whole (p' := p.pass) HF.out HM.out rfl hq3 ho3); clear hq3 ho3 HM))
 go_upto_region 4 with (first | (refine mN rfl (.tmp 2) rfl rfl HF.out.h ?_) | (go_at_call 48; refine (HFO.out.dn1 HF.out H1.out).mono ?_; rintro e w1 ⟨rfl, hb⟩; have HF := Hd (HF.out.below hb); clear hb))
 go_upto_region 5 with (first | (refine aGT rfl (.tmp 18) rfl rfl HF.out.h ?_) | (go_at_call 71; refine (HLD.out _ _ _ HF.out.M).mono ?_; rintro e w1 ⟨rfl, hb⟩; have HF := Hd (HF.out.below hb); clear hb))
 go_wp2_with (first | (refine mN rfl (.tmp 2) rfl rfl HF.out.h ?_) | (refine nD rfl (.tmp 4) (.tmp 24) rfl rfl (p.pass) _ _ gv n rfl HF.out.z HF.out.one ?_; intro w9 hq9 ho9; have HX := Hd (gJ HF.out ho9); have HQ9 := Hd hq9; clear hq9 ho9))
 exact rG
theorem aLX (s n c m : Nat) (p : Pt) (bk ev gv : Value) (a : Int) (a0 : 0 <= a) (a1 : a < 4294967296) (w : World) (F : Fit s n c m p bk ev gv w) (hm : m < 4294967280) :
 Calls prog 36 #[.agg (pl n p bk ev gv).toArray, .int .u32 a] w (aDK n c p.ldp gv (.int .u32 (p.ldv n c a)) (.int .i64 (p.lde n c a)) w) := by
 unfold Pt.ldp Pt.ldv Pt.lde
 cases h0 : p.dn
 . cases h1 : p.pass.dn
   . exact aLQ s n c m p bk ev gv a a0 a1 w F hm h0 h1
   . exact aLP s n c m p bk ev gv a a0 a1 w F hm h0 h1
 . exact aLO s n c m p bk ev gv a a0 a1 w F hm h0
theorem jY {P : Prop} (h : P := by
 exact bodyPost_ret (aKg rfl _ _ _ rfl rfl HQ9.out) rfl ⟨_, _, rfl, HX.out⟩
 ) : P := h
theorem aIU (s n c m : Nat) (p : Pt) (bk ev gv : Value) (a v : Int) (a0 : 0 <= a) (a1 : a < 4294967296) (v0 : 0 <= v) (v1 : v < 4294967296) (w : World) (F : Fit s n c m p bk ev gv w) (hm : m < 4294967280) (h0 : p.dn = true) :
 Calls prog 33 #[.agg (pl n p bk ev gv).toArray, .int .u32 a, .int .u32 v] w (oP n c p gv (.int .i64 13) w) := by
 skip
 have HF := Hd (iI w n c p bk ev gv s F.sb F.M F.G)
 have HFO := Hd F
 have H0 := Hd h0
 clear F h0
 go_enter func33, ntmps33
 go_upto_region 1 with (fail)
 rw [cP, bH]
 generalize (w.alloc (fW n p bk ev gv)).alloc dI = W at *
 generalize w.heap.size + 1 = r at *
 generalize hbn : w.heap.size = b at *
 go_upto_region 8 with (first | (refine mN rfl (.tmp 3) rfl rfl HF.out.h ?_) | (go_at_call 48; refine (HFO.out.dn0 HF.out H0.out).mono ?_; rintro e w1 ⟨rfl, hb⟩; have HF := Hd (HF.out.below hb); clear hb))
 go_wp2_with (first | (refine mN rfl (.tmp 3) rfl rfl HF.out.h ?_) | (refine nD rfl (.tmp 6) (.tmp 33) rfl rfl (p) _ _ gv n rfl HF.out.z HF.out.one ?_; intro w9 hq9 ho9; have HX := Hd (gJ HF.out ho9); have HQ9 := Hd hq9; clear hq9 ho9))
 exact jY
theorem aIV (s n c m : Nat) (p : Pt) (bk ev gv : Value) (a v : Int) (a0 : 0 <= a) (a1 : a < 4294967296) (v0 : 0 <= v) (v1 : v < 4294967296) (w : World) (F : Fit s n c m p bk ev gv w) (hm : m < 4294967280) (h0 : p.dn = false) (h1 : p.pass.dn = true) :
 Calls prog 33 #[.agg (pl n p bk ev gv).toArray, .int .u32 a, .int .u32 v] w (oP n c p.pass gv (.int .i64 13) w) := by
 have H1 := Hd h1
 have HF := Hd (iI w n c p bk ev gv s F.sb F.M F.G)
 have HFO := Hd F
 have H0 := Hd h0
 clear F h0
 go_enter func33, ntmps33
 go_upto_region 1 with (fail)
 rw [cP, bH]
 generalize (w.alloc (fW n p bk ev gv)).alloc dI = W at *
 generalize w.heap.size + 1 = r at *
 generalize hbn : w.heap.size = b at *
 go_upto_region 2 with (first | (refine mN rfl (.tmp 3) rfl rfl HF.out.h ?_) | (go_at_call 48; refine (HFO.out.dn0 HF.out H0.out).mono ?_; rintro e w1 ⟨rfl, hb⟩; have HF := Hd (HF.out.below hb); clear hb))
 go_upto_region 3 with (first | (refine mN rfl (.tmp 3) rfl rfl HF.out.h ?_) | (go_at_call 69; refine (HFO.out.gap0 HF.out).mono ?_; rintro e w2 ⟨bk', ev', rfl, M', hb⟩; have HM := Hd M'; have HF := Hd (HF.out.below hb); clear M' hb) | (refine nD rfl (.tmp 3) (.tmp 14) rfl rfl p.pass bk' ev' gv n rfl HF.out.h.z ⟨HM.out.one.1, HM.out.one.2, HF.out.one.2.2⟩ ?_; intro w3 hq3 ho3; have HF := Hd (jV.whole (p' := p.pass) HF.out HM.out rfl hq3 ho3); clear hq3 ho3 HM))
 go_upto_region 8 with (first | (refine mN rfl (.tmp 3) rfl rfl HF.out.h ?_) | (go_at_call 48; refine (HFO.out.dn1 HF.out H1.out).mono ?_; rintro e w1 ⟨rfl, hb⟩; have HF := Hd (HF.out.below hb); clear hb))
 go_wp2_with (first | (refine mN rfl (.tmp 3) rfl rfl HF.out.h ?_) | (refine nD rfl (.tmp 6) (.tmp 33) rfl rfl (p.pass) _ _ gv n rfl HF.out.z HF.out.one ?_; intro w9 hq9 ho9; have HX := Hd (gJ HF.out ho9); have HQ9 := Hd hq9; clear hq9 ho9))
 exact jY
theorem aIW (s n c m : Nat) (p : Pt) (bk ev gv : Value) (a v : Int) (a0 : 0 <= a) (a1 : a < 4294967296) (v0 : 0 <= v) (v1 : v < 4294967296) (w : World) (F : Fit s n c m p bk ev gv w) (hm : m < 4294967280) (D : Bool) (h0 : p.dn = false) (h1 : p.pass.dn = false) (h2 : (p.pass.put n c a v).dn = D) :
 Calls prog 33 #[.agg (pl n p bk ev gv).toArray, .int .u32 a, .int .u32 v] w (oP n c (p.pass.put n c a v) gv (.int .i64 (cond D 13 (Bx.ste n c a))) w) := by
 have H1 := Hd h1
 have hp2 := Pt.stored_ok (n := n) (c := c) F.po F.st F.tk1.2 F.hm h0 h1 a v
 have hel : p.pass.x.es.length < 4294967296 := by have := Pt.passed_ok F.po F.st F.hm h0 h1; have := F.hm; omega
 have HD2 := Hd (fun bk ev w' M => aDU n c (p.pass.put n c a v) bk ev gv w' M hp2.se)
 rw [h2] at HD2
 have HST := Hd (fun bk ev w' M => aNG n c p.pass.x bk ev a v w' M F.tk1.1 F.tk1.2 a0 a1 v0 v1 hel)
 clear hp2 hel h1 h2
 have HF := Hd (iI w n c p bk ev gv s F.sb F.M F.G)
 have HFO := Hd F
 have H0 := Hd h0
 clear F h0
 cases D
 all_goals
  go_enter func33, ntmps33
  go_upto_region 1 with (fail)
  rw [cP, bH]
  generalize (w.alloc (fW n p bk ev gv)).alloc dI = W at *
  generalize w.heap.size + 1 = r at *
  generalize hbn : w.heap.size = b at *
  go_upto_region 2 with (first | (refine mN rfl (.tmp 3) rfl rfl HF.out.h ?_) | (go_at_call 48; refine (HFO.out.dn0 HF.out H0.out).mono ?_; rintro e w1 ⟨rfl, hb⟩; have HF := Hd (HF.out.below hb); clear hb))
  go_upto_region 3 with (first | (refine mN rfl (.tmp 3) rfl rfl HF.out.h ?_) | (go_at_call 69; refine (HFO.out.gap0 HF.out).mono ?_; rintro e w2 ⟨bk', ev', rfl, M', hb⟩; have HM := Hd M'; have HF := Hd (HF.out.below hb); clear M' hb) | (refine nD rfl (.tmp 3) (.tmp 14) rfl rfl p.pass bk' ev' gv n rfl HF.out.h.z ⟨HM.out.one.1, HM.out.one.2, HF.out.one.2.2⟩ ?_; intro w3 hq3 ho3; have HF := Hd (jV.whole (p' := p.pass) HF.out HM.out rfl hq3 ho3); clear hq3 ho3 HM))
  go_upto_region 4 with (first | (refine mN rfl (.tmp 3) rfl rfl HF.out.h ?_) | (go_at_call 48; refine (HFO.out.dn1 HF.out H1.out).mono ?_; rintro e w1 ⟨rfl, hb⟩; have HF := Hd (HF.out.below hb); clear hb))
  go_upto_region 5 with (first | (refine aGT rfl (.tmp 19) rfl rfl HF.out.h ?_) | (go_at_call 70; refine (HST.out _ _ _ HF.out.M).mono ?_; rintro e w4 ⟨bk4, ev4, rfl, M4, hb⟩; have HM := Hd M4; have HF := Hd (HF.out.below hb); clear M4 hb) | (rw [eL]; refine dX rfl (.tmp 8) (.tmp 24) rfl rfl (p.pass.x.sto n c a v) bk4 ev4 n rfl (aD w4 fN) rfl HM.out.one ?_; intro w5 hN5 ho5; have hb5 := lF (aE (aH w4) fN) ho5 (Nat.le_refl _) (Nat.le_refl _); have HN := Hd hN5; have HM := Hd (HM.out.below hb5); have HF := Hd (HF.out.below hb5); clear hN5 ho5 hb5))
  go_upto_region 6 with (first | (refine dU rfl (.tmp 8) rfl rfl HN.out ?_) | (refine aJL rfl (.tmp 27) (.tmp 26) rfl rfl (p.pass.x.sto n c a v) bk4 ev4 rfl HF.out.h HM.out.one ?_; intro w6 hq6 ho6; have HF := Hd (show jV w w6 b r n c (p.pass.put n c a v) bk4 ev4 gv s from jV.board HF.out HM.out hq6 ho6); clear hq6 ho6 HM HN))
  go_wp2_with (first | (refine mN rfl (.tmp 3) rfl rfl HF.out.h ?_) | (go_at_call 48; refine (HD2.out _ _ _ HF.out.M).mono ?_; rintro e w1 ⟨rfl, hb⟩; have HF := Hd (HF.out.below hb); clear hb) | ((first | (refine nD rfl (.tmp 6) (.tmp 31) rfl rfl (p.pass.put n c a v) _ _ gv n rfl HF.out.z HF.out.one ?_) | (refine nD rfl (.tmp 6) (.tmp 33) rfl rfl (p.pass.put n c a v) _ _ gv n rfl HF.out.z HF.out.one ?_)); intro w9 hq9 ho9; have HX := Hd (gJ HF.out ho9); have HQ9 := Hd hq9; clear hq9 ho9))
  exact bodyPost_ret (aKg rfl _ _ _ rfl rfl HQ9.out) rfl ⟨_, _, rfl, HX.out⟩
theorem lO (s n c m : Nat) (p : Pt) (bk ev gv : Value) (a v : Int) (a0 : 0 <= a) (a1 : a < 4294967296) (v0 : 0 <= v) (v1 : v < 4294967296) (w : World) (F : Fit s n c m p bk ev gv w) (hm : m < 4294967280) :
 Calls prog 33 #[.agg (pl n p bk ev gv).toArray, .int .u32 a, .int .u32 v] w (oP n c (p.stp n c a v) gv (.int .i64 (p.ste n c a v)) w) := by
 unfold Pt.stp Pt.ste
 cases h0 : p.dn
 . cases h1 : p.pass.dn
   . have := aIW s n c m p bk ev gv a v a0 a1 v0 v1 w F hm _ h0 h1 rfl
     cases h2 : (p.pass.put n c a v).dn <;> rw [h2] at this <;> exact this
   . exact aIV s n c m p bk ev gv a v a0 a1 v0 v1 w F hm h0 h1
 . exact aIU s n c m p bk ev gv a v a0 a1 v0 v1 w F hm h0
theorem aNz (s n c m : Nat) (p : Pt) (bk ev gv : Value) (w : World) (F : Fit s n c m p bk ev gv w) :
 Calls prog 38 #[.agg (pl n p bk ev gv).toArray] w (oP n c p.bt gv (.int .i64 ((p.x.es.length : Int) - p.se)) w) := by
 have hse := F.po.se
 have hes := F.po.es
 have hm := F.hm
 have hw : IntKind.i64.wrap ((p.x.es.length : Int) - p.se) = (p.x.es.length : Int) - p.se := by rw [IntKind.wrap_i64]; omega
 obtain ⟨y, cap, rfl, _⟩ := pU F.M.e
 have hF := iI w n c p bk (.slice y p.x.es.length cap) gv s F.sb F.M F.G
 clear F hse hes hm
 have HF := Hd hF
 clear hF
 go_enter func38, ntmps38
 go_upto_region 1 with (fail)
 rw [cP, bH]
 generalize (w.alloc (fW n p bk (.slice y p.x.es.length cap) gv)).alloc dI = W at *
 generalize w.heap.size + 1 = r at *
 generalize hbn : w.heap.size = b at *
 clear hbn
 have cE := HF.out.h.cE
 have cD := HF.out.h.cD
 have fD := HF.out.h.free 113
 have hlb := HF.out.h.lt
 go_upto_region 3 with (fail)
 have hso := aG W b 113 (.int .i64 p.x.es.length)
 have F1 := jV.turn (p' := p.bt) HF.out (HF.out.h.setD p.x.es.length) hso rfl rfl
 clear hso HF hw cE cD fD hlb
 generalize W.setCell ⟨b, 113, none⟩ (.int .i64 p.x.es.length) = W2 at *
 have HF := Hd F1
 clear F1
 go_wp2_with (first | (refine mN rfl (.tmp 1) rfl rfl HF.out.h ?_) | (refine nD rfl (.tmp 2) (.tmp 17) rfl rfl p.bt bk (.slice y p.x.es.length cap) gv n rfl HF.out.z HF.out.one ?_; intro w9 hq9 ho9; have HX := Hd (gJ HF.out ho9); have HQ9 := Hd hq9; clear hq9 ho9))
 exact jY
section
variable {w w' : World} {b n c : Nat} {x : Bx} {bk ev : Value}
theorem eY.kp (h : eY w b n x bk ev) (K : Kp w w') : eY w' b n x bk ev := K _ _ _ _ h (by decide)
theorem MV.kp (M : MV w c x bk ev) (K : Kp w w') : MV w' c x bk ev := by
 obtain ⟨g, cap, h1, h2⟩ := M.k
 obtain ⟨cur, h3, h4, h5⟩ := h2.row
 refine ⟨⟨g, cap, h1, ⟨cur, K _ _ _ _ h3 (by decide), h4, h5⟩, h2.nc, h2.cm⟩, M.e.keep fun k hk => ?_⟩
 obtain ⟨cur, hc⟩ := gB M.e hk
 rw [hc]
 exact K _ _ _ _ hc (by decide)
end
section
variable {w0 w w' : World} {s b n : Nat} {x : Bx} {bk ev : Value} {K N a v : Int}
end
section
variable {w w' : World} {p : Pt} {gv : Value}
theorem QP.kq {b n : Nat} {bk ev : Value} (h : QP w b n p bk ev gv) (K : Kq w w') : QP w' b n p bk ev gv := K _ _ _ _ h (by decide) rfl
theorem ZP.kq {r : Nat} (h : ZP w r) (K : Kq w w') : ZP w' r := by obtain ⟨cs, h1, h2⟩ := h; exact ⟨cs, K _ _ _ _ h1 (by decide) rfl, h2⟩
theorem MV.kq {c : Nat} {x : Bx} {bk ev : Value} (M : MV w c x bk ev) (K : Kq w w') : MV w' c x bk ev := by
 obtain ⟨g, cap, h1, h2⟩ := M.k
 obtain ⟨cur, h3, h4, h5⟩ := h2.row
 refine ⟨⟨g, cap, h1, ⟨cur, K _ _ _ _ h3 (by decide) rfl, h4, h5⟩, h2.nc, h2.cm⟩, M.e.keep fun k hk => ?_⟩
 obtain ⟨cur, hc⟩ := gB M.e hk
 rw [hc]
 exact K _ _ _ _ hc (by decide) rfl
end
section
variable {o : Oper} {a : Act} {C : World -> Prop} {K : Act -> Prop} {b n : Nat} {p : Pt} {bk ev gv : Value}
theorem uW (y : Operand) (ho : o.op = .load 42 y) (hx : a.eval y = .pointer (some ⟨b, 0, none⟩)) (hg : ∀ w, C w -> QP w b n p bk ev gv) (h : K (a.put o.dst (.agg (pl n p bk ev gv).toArray))) : o.quiet prog a C K :=
 bD _ y ho b 0 hx _ (pl n p bk ev gv) (fun w hw => hg w hw) underlying42 rfl (by rw [gE]; exact vP) (aL _) h
theorem aOl (y : Operand) (ho : o.op = .load 40 y) (hx : a.eval y = .pointer (some ⟨b, 0, none⟩)) (hg : ∀ w, C w -> QP w b n p bk ev gv) (h : K (a.put o.dst (.agg (ml n p.x bk ev).toArray))) : o.quiet prog a C K :=
 bD _ y ho b 0 hx _ (ml n p.x bk ev) (fun w hw => hg w hw) underlying40 rfl (by rw [cO]; exact aA9) (lG _ _) h
theorem QP.grown {w : World} (h : QP w b n p bk ev gv) : ∀ w', (∃ q : Regrown, w' = grow (redrawn w q.d) q.os) -> QP w' b n p bk ev gv := bZ h
end
theorem aDs (q : Nat) (B : Bp) (p : Pt) (gv : Value) (s m : Nat) (bk ev dv : Value) (w : World) (H : aT w q B p gv) (F : Fit s B.n B.c m p bk ev dv w) :
 Calls prog 19 #[.pointer (some ⟨q, 0, none⟩), .agg (pl B.n p bk ev dv).toArray] w fun e w' => e = .returned (.bool true) /\ Below w.heap.size w w' := by
 have hb := aE (aH w) (fW B.n p bk ev dv)
 have hel : p.x.es.length < 4294967296 := by have := F.po.es; have := F.hm; omega
 have HH := Hd (H.below hb)
 have HM := Hd (F.M.below hb)
 have HQ := Hd (show QP (w.alloc (fW B.n p bk ev dv)) w.heap.size B.n p bk ev dv from aD w _)
 have HD := Hd (fun w' h => uU q B p gv w' h F.po.td F.po.se)
 have HD2 := Hd (fun w' (M : MV w' B.c p.x bk ev) => aDU B.n B.c p bk ev dv w' M F.po.se)
 have HS := Hd (fun w' h => aMW q B p gv w' h)
 have HMd := Hd (fun w' h => aKa q B p gv w' h)
 have HBd := Hd (fun w' h => pI q B p gv w' h)
 have HAl := Hd (fun w' (h : aZ w' B p.x) (M : MV w' B.c p.x bk ev) => aNE B p.x bk ev w' h M hel)
 have HB := Hd hb
 have e0 : (p.dn == p.dn) = true := by cases p.dn <;> rfl
 have e1 := fP p.sp
 have e2 := fP (p.md : Int)
 clear H F hel hb
 go_enter func19, ntmps19
 go_upto_region 1 with (fail)
 rw [cP]
 generalize w.alloc (fW B.n p bk ev dv) = W at *
 have cM := HQ.out.cM
 have cS := HQ.out.cS
 have hlb := HQ.out.lt
 have hg := bC
 refine wp_region_quiet_below (by kernel_rfl) (by kernel_rfl) ?_
 repeat (first
  | go_big_quiet_skip
  | (go_big_quiet_want; first
      | (refine uW (.tmp 3) rfl rfl HQ.out.grown ?_; go_simp; go_big_quiet_on)
      | (refine aOl (.tmp 27) rfl rfl HQ.out.grown ?_; go_simp; go_big_quiet_on)
      | (go_big_quiet_op; first | go_big_quiet_on | go_big_quiet_call (first
          | (go_at_call 47; exact Calls.regrown_of (HD.out _ (HH.out.below (below_regrown W _ _))))
          | (go_at_call 48; exact Calls.regrown_of (HD2.out _ (HM.out.below (below_regrown W _ _))))
          | (go_at_call 49; exact Calls.regrown_of (HS.out _ (HH.out.below (below_regrown W _ _))))
          | (go_at_call 21; exact Calls.regrown_of (HMd.out _ (HH.out.below (below_regrown W _ _))))
          | (go_at_call 20; exact Calls.regrown_of (HBd.out _ (HH.out.below (below_regrown W _ _))))
          | (go_at_call 50; exact Calls.regrown_of (HAl.out _ (HH.out.bd.below (below_regrown W _ _)) (HM.out.below (below_regrown W _ _))))))))
 refine wpQuiet_nil ?_
 intro _ hw'
 obtain ⟨⟨dq, osq⟩, hw''⟩ := hw'
 subst hw''
 have hbr := below_regrown W dq osq
 have HX := Hd (tr HB.out hbr)
 clear hbr
 dsimp only at HX ⊢
 go_wp2_with fail
 go_ret
 exact ⟨rfl, HX.out⟩
abbrev aQA : TypeId := 52
def hJ (K a v : Int) (gA : Value) (N : Int) : Obj := .cells #[.int .i64 K, .int .u32 a, .int .u32 v, gA, .int .u64 N] aQA (0, 0)
def qT (w : World) (y : Option Addr) (len cap : Nat) : Prop := len <= cap /\ cap <= maxLen /\ (len = 0 \/ ∃ b off, ∃ zs : Nat -> Int, y = some ⟨b, off, none⟩ /\ b < w.heap.size /\ ∀ i, i < cap -> w.cell? ⟨b, off + i, none⟩ = some (.int .u32 (zs i)) /\ 0 <= zs i /\ zs i < 4294967296)
theorem xZ {w : World} {cs : List Value} (h : Fits w (.slice (.int .u32)) cs) : ∃ y len cap, cs = [.slice y len cap] /\ qT w y len cap := by
 rcases h with rfl | ⟨x, len, cap, rfl, h1, h2, h3⟩
 . exact ⟨none, 0, 0, rfl, Nat.le_refl _, Nat.zero_le _, .inl rfl⟩
 refine ⟨some x, len, cap, rfl, h1, h2, ?_⟩
 by_cases hl : len = 0
 . exact .inl hl
 . right
   have g : ∀ i, i < cap -> ∃ n : Int, w.cell? (x.add i) = some (.int .u32 n) /\ (Lit.int .u32 n).wf = true := fun i hi => by
    exact ZCt6f04c3
   obtain ⟨n0, hc0, _⟩ := g 0 (by omega)
   obtain ⟨hx, hb⟩ := addr_of_cell hc0
   refine ⟨x.block, x.off, fun i => if h : i < cap then (g i h).choose else 0, by rw [<- hx], hb, fun i hi => ?_⟩
   simp only [hi, dite_true]
   have hs := (g i hi).choose_spec
   generalize (g i hi).choose = z at *
   have hu := bounds_u32 hs.2
   refine ⟨?_, by omega, by omega⟩
   rw [<- hs.1]
   rw [hx, add_form]
theorem tW {w : World} {v : Value} (h : FitsV w (.slice (.int .u32)) v) : ∃ y len cap, v = .slice y len cap /\ qT w y len cap := by
 obtain ⟨y, len, cap, he, h1⟩ := xZ (w := w) (cs := [v]) h
 exact ⟨y, len, cap, by simpa using he, h1⟩
theorem qT.keep {w w' : World} {y : Option Addr} {len cap : Nat} (h : qT w y len cap) (hb : Below w.heap.size w w') : qT w' y len cap := by
 obtain ⟨h1, h2, h3⟩ := h
 refine ⟨h1, h2, h3.imp id ?_⟩
 rintro ⟨b, off, zs, rfl, hl, hc⟩
 exact ⟨b, off, zs, rfl, Nat.lt_of_lt_of_le hl hb.size, fun i hi => by rw [hb.cell (p := ⟨b, _, none⟩) hl]; exact hc i hi⟩
theorem qT.gaps {w0 w : World} {y : Option Addr} {len cap : Nat} (h : qT w0 y len cap) (hb : Below w0.heap.size w0 w) (n : Nat) (hn : n <= len) : ∃ gs : List Int, gs.length = n /\ (∀ g ∈ gs, 0 <= g /\ g < 4294967296) /\ jW w0.heap.size w (.slice y n cap) gs := by
 obtain ⟨h1, h2, h3⟩ := h
 by_cases h0 : n = 0
 . subst h0
   exact ⟨[], rfl, (fun g hg => by cases hg), y, cap, rfl, Nat.zero_le _, h2, .inl rfl⟩
 . obtain ⟨b, off, zs, rfl, hl, hc⟩ := h3.resolve_left (by omega)
   refine ⟨(List.range n).map zs, by simp, fun g hg => ?_, _, cap, by simp, by simp; omega, h2, .inr ⟨b, off, rfl, Nat.lt_of_lt_of_le hl hb.size, .inl hl, fun i g hi => ?_⟩⟩
   . obtain ⟨i, hi, rfl⟩ := List.mem_map.1 hg
     exact (hc i (by have := List.mem_range.1 hi; omega)).2
   . rw [hb.cell (p := ⟨b, off + i, none⟩) hl]
     have hin : i < n := by have := (List.getElem?_eq_some_iff.1 hi).1; simpa using this
     rw [(hc i (by omega)).1]
     rw [List.getElem?_map, List.getElem?_range hin] at hi
     simp at hi
     rw [hi]
abbrev aKj : Sh := .pair (.int .i64) (.pair (.int .u32) (.pair (.int .u32) (.pair (.slice (.int .u32)) (.pair (.int .u64) .unit))))
theorem aCY {w : World} {cs : List Value} (h : Fits w aKj cs) :
 ∃ (K a v : Int) (y : Option Addr) (len cap : Nat) (N : Int), cs = [.int .i64 K, .int .u32 a, .int .u32 v, .slice y len cap, .int .u64 N] /\ qT w y len cap /\ (-9223372036854775808 <= K /\ K < 9223372036854775808) /\ (0 <= a /\ a < 4294967296) /\ (0 <= v /\ v < 4294967296) /\ (0 <= N /\ N < 18446744073709551616) := by
 obtain ⟨_, _, rfl, ⟨K, rfl, hK⟩, _, _, rfl, ⟨a, rfl, ha⟩, _, _, rfl, ⟨v, rfl, hv⟩, c4, _, rfl, hg, _, _, rfl, ⟨N, rfl, hN⟩, rfl⟩ := h
 obtain ⟨y, len, cap, rfl, hr⟩ := xZ hg
 have kt1 := bounds_i64 hK
 have a1 := bounds_u32 ha
 have v1 := bounds_u32 hv
 have n1 := bounds_u64 hN
 exact ⟨K, a, v, y, len, cap, N, rfl, hr, by omega, by omega, by omega, by omega⟩
theorem aNv (y : Option Addr) (len cap n : Nat) (hn : n <= len) (hc : len <= cap) (w : World) : (Instr.slice 22 (.slice y len cap) none (some (.int .i64 n)) none).run prog w = .ok (.slice y n cap) w := by
 have hel : prog.elem 22 = tU := by kernel_rfl
 have hs : ∀ w, (sizeOf tU).run prog w = .ok 1 w := fun w => by kernel_rfl
 rw [run_slice_h (P := prog) w 22 y len cap (by rw [hel]; exact underlying22) .i64 n (by omega) (by omega), hel, hs]
 cases y with
 | none => simp [sliced]
 | some x =>
   have : x.add 0 = x := by unfold Addr.add; rw [if_pos rfl]
   simp [sliced, this]
end Go.Proofs.YtaohacadochldaaGreat.B
