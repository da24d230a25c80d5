/- A part of the proof of a law of layer 12: bu. -/
import Derived.Test.YtaohacadochldaaGreatZCbt
set_option linter.unusedVariables false
set_option linter.unusedSimpArgs false
set_option maxHeartbeats 12800000
set_option maxRecDepth 100000
namespace Go.Proofs.YtaohacadochldaaGreat.B
open Go.Proofs.Tryz
open Go.ChangeShapes Go.WideShapes Go.RowKit Go.Sort
theorem wM {P : Prop} (h : P := by
 go_enter func3, ntmps3
 go_upto_region 2 with (fail)
 simp only [HN.out]
 go_upto_region 3 with (first
  | (go_at_call 7; refine (HMD.out).mono ?_; rintro e w1 ⟨q, C, gv, bk, ev, dv, rfl, hbo, hlo⟩; have HBO := Hd hbo; have HLO := Hd hlo; clear hbo hlo HMD)
  | (rw [bH]; refine nD rfl (.tmp 10) (.tmp 32) rfl rfl ⟨x0, gs, 0, 0, 0⟩ bk ev dv n rfl (ZP.new w1 (aD w1 dI)) ⟨HBO.out.F.M.one.1, HBO.out.F.M.one.2, HBO.out.F.G.one⟩ ?_; intro w2 hq2 ho2; have hb2 := aF.toBelow (aE (aH w1) dI) ho2 (fun k hk e => by omega) (Nat.le_refl _); have HBO := Hd (HBO.out.below hb2); have HLO := Hd (tr HLO.out hb2); clear hq2 ho2 hb2))
 generalize (⟨x0, gs, 0, 0, 0⟩ : Pt) = p0 at *
 go_upto_region 4 with (go_at_call 8; refine (aJI q C p0 gv hh _ HBO.out.H (by rw [HBO.out.en]; exact HR.out)).mono ?_; rintro e w3 ⟨rfl, hb⟩; have HLO := Hd (tr HLO.out hb); clear hb)
 go_wp2_with (go_at_call 9; refine (aAT _).mono ?_; rintro e w4 ⟨rfl, hb⟩; have HLO := Hd (tr HLO.out hb); clear hb)
 go_ret
 exact ⟨rfl, HLO.out⟩
 ) : P := h
theorem aAV (w : World) (a hh : Int) (gy : Option Addr) (gl gc : Nat) (hg : qT w gy gl gc) (n : Nat) (hN : wrap64 (1 + wrap64 ((IntKind.u64.wrap a).tmod 8)) = (n : Int)) (n1 : 1 <= n) (n8 : n <= 8) (h0 : hh < 0) (y : Option Addr) (len cap : Nat) :
 Calls prog 3 #[.int .i64 a, .int .i64 hh, .slice gy gl gc, .slice y len cap] w fun e w' => e = .returned (.bool true) /\ Below w.heap.size w w' := by
 obtain ⟨gs, hgn, hgb, hga⟩ := hg.gaps (aH w) (min gl 64) (by omega)
 obtain ⟨x0, hx0⟩ : ∃ x0, qQ 10 = x0 := ⟨_, rfl⟩
 have HMD := Hd (aAU w x0 hx0 n n1 n8 gy gl gc gs hgn hg.1 hgb (by rw [hgn]; exact hga))
 have HN := Hd hN
 have HR := Hd (show hh < 0 \/ (n : Int) <= hh by omega)
 have q0 : decide (hh < 0) = true := decide_eq_true h0
 clear hN hg hgn hgb hga hx0 n1 n8 h0
 exact wM
theorem aAW (w : World) (a hh : Int) (gy : Option Addr) (gl gc : Nat) (hg : qT w gy gl gc) (n : Nat) (hN : wrap64 (1 + wrap64 ((IntKind.u64.wrap a).tmod 8)) = (n : Int)) (n1 : 1 <= n) (n8 : n <= 8) (h0 : ¬ hh < 0) (h1 : (n : Int) <= hh) (y : Option Addr) (len cap : Nat) :
 Calls prog 3 #[.int .i64 a, .int .i64 hh, .slice gy gl gc, .slice y len cap] w fun e w' => e = .returned (.bool true) /\ Below w.heap.size w w' := by
 obtain ⟨gs, hgn, hgb, hga⟩ := hg.gaps (aH w) (min gl 64) (by omega)
 obtain ⟨x0, hx0⟩ : ∃ x0, qQ 10 = x0 := ⟨_, rfl⟩
 have HMD := Hd (aAU w x0 hx0 n n1 n8 gy gl gc gs hgn hg.1 hgb (by rw [hgn]; exact hga))
 have HN := Hd hN
 have HR := Hd (show hh < 0 \/ (n : Int) <= hh by omega)
 have q0 : decide (hh < 0) = false := decide_eq_false h0
 have q1 : decide ((n : Int) <= hh) = true := decide_eq_true h1
 clear hN hg hgn hgb hga hx0 n1 n8 h0 h1
 exact wM
theorem aC8 (w : World) (a : Int) (gy : Option Addr) (gl gc : Nat) (hg : qT w gy gl gc) (n h : Nat) (hN : wrap64 (1 + wrap64 ((IntKind.u64.wrap a).tmod 8)) = (n : Int)) (n1 : 1 <= n) (n8 : n <= 8) (hhn : h < n) (y : Option Addr) (len cap : Nat) (hy : aE9 w y len cap) :
 Calls prog 3 #[.int .i64 a, .int .i64 h, .slice gy gl gc, .slice y len cap] w fun e w' => e = .returned (.bool true) /\ Below w.heap.size w w' := by
 obtain ⟨gs, hgn, hgb, hga⟩ := hg.gaps (aH w) (min gl 64) (by omega)
 obtain ⟨x0, hx0⟩ : ∃ x0, qQ 10 = x0 := ⟨_, rfl⟩
 have HMD := Hd (aAU w x0 hx0 n n1 n8 gy gl gc gs hgn hg.1 hgb (by rw [hgn]; exact hga))
 have HY := Hd hy
 have HN := Hd hN
 have HHN := Hd hhn
 have q0 : decide ((h : Int) < 0) = false := decide_eq_false (by omega)
 have q1 : decide ((n : Int) <= (h : Int)) = false := decide_eq_false (by omega)
 have q2 : decide (n <= h) = false := decide_eq_false (by omega)
 have qh : ((h : Int) != (h : Int)) = false := bne_self_eq_false _
 clear hy hN hg hgn hgb hga hhn hx0 n1 n8
 go_enter func3, ntmps3
 go_upto_region 2 with (fail)
 simp only [HN.out]
 clear HN
 go_upto_region 3 with (first
  | (go_at_call 7; refine (HMD.out).mono ?_; rintro e w1 ⟨q, C, gv, bk, ev, dv, rfl, hbo, hlo⟩; have HBO := Hd hbo; have HLO := Hd hlo; clear hbo hlo HMD)
  | (rw [bH]; refine nD rfl (.tmp 10) (.tmp 32) rfl rfl ⟨x0, gs, 0, 0, 0⟩ bk ev dv n rfl (ZP.new w1 (aD w1 dI)) ⟨HBO.out.F.M.one.1, HBO.out.F.M.one.2, HBO.out.F.G.one⟩ ?_; intro w2 hq2 ho2; have hb2 := aF.toBelow (aE (aH w1) dI) ho2 (fun k hk e => by omega) (Nat.le_refl _); have HP := Hd (show P12 w w2 w1.heap.size n 1 0 q C ⟨x0, gs, 0, 0, 0⟩ gv bk ev dv from ⟨HBO.out.below hb2, hq2, tr HLO.out hb2, HLO.out.size⟩); clear hq2 ho2 hb2))
 clear HBO HLO
 generalize w1.heap.size = mb at *
 generalize (⟨x0, gs, 0, 0, 0⟩ : Pt) = p0 at *
 have hBn := HP.out.bo.en
 go_upto_region 4 with (go_at_call 8; refine (aKl q C p0 gv h _ HP.out.bo.H (by rw [hBn]; exact HHN.out)).mono ?_; rintro e w3 ⟨c, rfl, hK, hcc, hb⟩; have HR := Hd (show jM w w3 mb n 0 q C p0 gv bk ev dv c h 18446744073709551615 from ⟨HP.out.below hb, hK, Nat.le_trans HP.out.lo.size hcc, HHN.out⟩); clear hK hcc hb)
 clear HP hBn
 go_upto_region 10 with (go_at_call 10; refine (aMz HR.out.K).mono ?_; rintro e w4 ⟨rfl, rfl⟩)
 clear q0 q1 q2 qh HHN
 go_wp2_with fail
 go_loopw [9, 13, 14] (fun l a i wr => ∃ (k m : Nat) (C : Bp) (p : Pt) (gv bk ev dv : Value) (L : Int), k <= len /\ k <= 40 /\ m <= 3 * k /\ l = .pointer (some ⟨q, 0, none⟩) /\ i = .int .i64 k /\ a = .int .u64 L /\ Hid (jM w wr mb n m q C p gv bk ev dv c h L)) (fun l a i wr => len - (intOf i).toNat)
 case atStart => exact ⟨0, 0, C, p0, gv, bk, ev, dv, _, by omega, by omega, by omega, rfl, rfl, rfl, HR⟩
 case round =>
  clear HR
  obtain ⟨k, m, C, p, gv, bk, ev, dv, L, hk, hkl, hm, rfl, rfl, rfl, HR⟩ := hrel
  by_cases hlt : k < len /\ k < 40
  . obtain ⟨hlt, hlm⟩ := hlt
    rcases HY.out with hy | ⟨z, off, rfl, hlc, hcm, hbl, hz⟩
    . omega
    unfold maxLen at hcm
    obtain ⟨K, D, K2, a2, v2, ay, al, ac, N, c0, c1, c2, c3, c4, c5, c6, hraw, ⟨d0, d1⟩, ⟨a0, a1⟩, ⟨v0, v1⟩, ⟨n0, n1⟩⟩ := hz k (by omega)
    rw [<- HR.out.P.lo.cell (p := ⟨z, _, none⟩) (by simpa using hbl)] at c0 c1 c2 c3 c4 c5 c6
    clear hz
    have hbw : z < wr.heap.size := by have := HR.out.P.lo.size; omega
    have HRW := Hd hraw
    have HD := Hd (And.intro d0 d1)
    have HAV := Hd (And.intro (And.intro a0 a1) (And.intro v0 v1))
    have HNB := Hd (And.intro n0 n1)
    clear hraw d0 d1 a0 a1 v0 v1 n0 n1
    go_upto_region 15 with (fail)
    rw [show Obj.cells #[.int .i64 K, .int .u64 D, .int .i64 K2, .int .u32 a2, .int .u32 v2, .slice ay al ac, .int .u64 N] 54 (0, 0) = aIE K D K2 a2 v2 (.slice ay al ac) N from rfl]
    have HA := Hd (aD wr (aIE K D K2 a2 v2 (.slice ay al ac) N))
    have HR := Hd (HR.out.below (aE (aH wr) (aIE K D K2 a2 v2 (.slice ay al ac) N)))
    generalize wr.alloc (aIE K D K2 a2 v2 (.slice ay al ac) N) = W1 at *
    generalize wr.heap.size = ab at *
    clear c0 c1 c2 c3 c4 c5 c6 hbw hcm hlc hbl
    have x0 : W1.cell? ⟨ab, 0, none⟩ = some (.int .i64 K) := by have := aA HA.out 0; simpa using this
    have hkm : m < 4294967000 := by omega
    by_cases h0 : K = 0
    . subst h0
      obtain ⟨r, hr⟩ : ∃ r, p.arm n 1 h D = r := ⟨_, rfl⟩
      have HOK := Hd (HR.out.amok hkm (d := D) HD.out.1 HD.out.2 hr)
      have CA := Hd (fun w' (R : jM w w' mb n m q C p gv bk ev dv c h L) => R.arm hkm HD.out.1 HD.out.2 hr)
      have CD := Hd (fun C2 w' (X : M14 w w' mb n m q C2 p r.p gv bk ev dv c h (lP D r.e)) => X.doc hkm (d := D) HD.out.1 HD.out.2 hr)
      clear hr
      have up := HOK.out.up
      obtain ⟨rp, E⟩ := r
      simp only at up HOK CA CD
      obtain ⟨L2, hL2⟩ : ∃ L2, lP D E = L2 := ⟨_, rfl⟩
      rw [hL2] at CA CD
      have HL2 := Hd hL2
      clear hL2
      have x1 : W1.cell? ⟨ab, 1, none⟩ = some (.int .u64 D) := by have := aA HA.out 1; simpa using this
      go_upto_region 23 with (go_at_call 12; refine (CA.out _ HR.out).mono ?_; rintro e W2 ⟨rfl, C2, X2⟩; have HX := Hd X2; clear X2 CA HR x0 x1)
      go_upto_region 24 with (first
       | (refine mN rfl (.tmp 10) rfl rfl HX.out.N ?_)
       | (go_at_call 13; refine (CD.out _ _ HX.out).mono ?_; rintro e W3 ⟨bk3, ev3, rfl, M3, hb⟩; have HM := Hd M3; have HX := Hd (HX.out.below hb); clear M3 hb CD)
       | (rw [bH]; refine nD rfl (.tmp 18) (.tmp 103) rfl rfl rp bk3 ev3 dv n rfl (ZP.new W3 (aD W3 dI)) ⟨HM.out.one.1, HM.out.one.2, HX.out.F.G.one⟩ ?_; intro W4 hq4 ho4; have hb4 := aF.toBelow (aE (aH W3) dI) ho4 (fun k hk e => by omega) (Nat.le_refl _); have HNX := Hd hq4; have HM := Hd (HM.out.below hb4); have HX := Hd (HX.out.below hb4); clear hq4 ho4 hb4))
      generalize W3.heap.size = nx at *
      go_upto_region 25 with (first
       | (refine mN rfl (.tmp 18) rfl rfl HNX.out ?_)
       | (refine nD rfl (.tmp 10) (.tmp 105) rfl rfl rp bk3 ev3 dv n rfl HX.out.N.z ⟨HM.out.one.1, HM.out.one.2, HX.out.F.G.one⟩ ?_; intro W5 hq5 ho5; have HR := Hd (HX.out.done HOK.out hkm HM.out hq5 ho5); clear hq5 ho5 HM HX HNX))
      have xE : (E != E) = false := bne_self_eq_false _
      rcases up with rfl | rfl
      . have hL : D = L2 := by rw [<- HL2.out]; unfold lP; rw [if_pos rfl]
        subst hL
        clear HL2 HOK
        obtain ⟨bb, hbb⟩ : ∃ bb, oR rp.x.ti n rp.x.D h = bb := ⟨_, rfl⟩
        have CA := Hd (fun w' (R : jM w w' mb n (m + 3) q C2 rp gv bk3 ev3 dv c h D) => R.armed)
        have CP := Hd (fun w' (R : jM w w' mb n (m + 3) q C2 rp gv bk3 ev3 dv c h D) => R.pend hbb)
        have CL := Hd (HR.out.line hbb)
        have CK := Hd (fun w' (R : jM w w' mb n (m + 3) q C2 rp gv bk3 ev3 dv c h D) => R.alike)
        have mL : (D != D) = false := bne_self_eq_false _
        have mB : (bb != bb) = false := bne_self_eq_false _
        clear hbb
        have hg := bC
        go_upto_region 41 with (fail)
        refine wp_region_quiet_below (by kernel_rfl) (by kernel_rfl) ?_
        repeat (first
         | go_big_quiet_skip
         | (go_big_quiet_want; first
             | (refine uX (.tmp 149) rfl rfl HR.out.P.N.grown ?_; go_simp; go_big_quiet_on)
             | (refine uW (.tmp 10) rfl rfl HR.out.P.N.grown ?_; go_simp; go_big_quiet_on)
             | (go_big_quiet_op; first | go_big_quiet_on | go_big_quiet_call (first
                 | (go_at_call 16; exact Calls.regrown_of (CA.out _ (HR.out.below (below_regrown W5 _ _))))
                 | (go_at_call 17; exact Calls.regrown_of (CP.out _ (HR.out.below (below_regrown W5 _ _))))
                 | (go_at_call 18; exact Calls.regrown_of (CL.out _))
                 | (go_at_call 19; exact Calls.regrown_of (CK.out _ (HR.out.below (below_regrown W5 _ _))))))))
        refine wpQuiet_nil ?_
        intro _ hw'
        obtain ⟨⟨dq, osq⟩, hw''⟩ := hw'
        subst hw''
        have HR := Hd (HR.out.below (below_regrown W5 dq osq))
        clear CA CP CL CK mL mB hg
        dsimp only at HR ⊢
        generalize grow (redrawn W5 dq) osq = W9 at *
        go_wp2_with fail
        go_roundw
        case rel => exact ⟨k + 1, m + 3, C2, rp, gv, bk3, ev3, dv, D, by omega, by omega, by omega, rfl, by go_num, rfl, HR⟩
        case measure => simp [intOf]; omega
      . have hL : 18446744073709551615 = L2 := by rw [<- HL2.out]; unfold lP; rw [if_neg (by decide)]
        subst hL
        clear HL2 HOK
        obtain ⟨bb, hbb⟩ : ∃ bb, oR rp.x.ti n rp.x.D h = bb := ⟨_, rfl⟩
        have CA := Hd (fun w' (R : jM w w' mb n (m + 3) q C2 rp gv bk3 ev3 dv c h 18446744073709551615) => R.armed)
        have CP := Hd (fun w' (R : jM w w' mb n (m + 3) q C2 rp gv bk3 ev3 dv c h 18446744073709551615) => R.pend hbb)
        have CL := Hd (HR.out.line hbb)
        have CK := Hd (fun w' (R : jM w w' mb n (m + 3) q C2 rp gv bk3 ev3 dv c h 18446744073709551615) => R.alike)
        have mL : (18446744073709551615 != 18446744073709551615) = false := bne_self_eq_false _
        have mB : (bb != bb) = false := bne_self_eq_false _
        clear hbb
        have hg := bC
        go_upto_region 41 with (fail)
        refine wp_region_quiet_below (by kernel_rfl) (by kernel_rfl) ?_
        repeat (first
         | go_big_quiet_skip
         | (go_big_quiet_want; first
             | (refine uX (.tmp 149) rfl rfl HR.out.P.N.grown ?_; go_simp; go_big_quiet_on)
             | (refine uW (.tmp 10) rfl rfl HR.out.P.N.grown ?_; go_simp; go_big_quiet_on)
             | (go_big_quiet_op; first | go_big_quiet_on | go_big_quiet_call (first
                 | (go_at_call 16; exact Calls.regrown_of (CA.out _ (HR.out.below (below_regrown W5 _ _))))
                 | (go_at_call 17; exact Calls.regrown_of (CP.out _ (HR.out.below (below_regrown W5 _ _))))
                 | (go_at_call 18; exact Calls.regrown_of (CL.out _))
                 | (go_at_call 19; exact Calls.regrown_of (CK.out _ (HR.out.below (below_regrown W5 _ _))))))))
        refine wpQuiet_nil ?_
        intro _ hw'
        obtain ⟨⟨dq, osq⟩, hw''⟩ := hw'
        subst hw''
        have HR := Hd (HR.out.below (below_regrown W5 dq osq))
        clear CA CP CL CK mL mB hg
        dsimp only at HR ⊢
        generalize grow (redrawn W5 dq) osq = W9 at *
        go_wp2_with fail
        go_roundw
        case rel => exact ⟨k + 1, m + 3, C2, rp, gv, bk3, ev3, dv, 18446744073709551615, by omega, by omega, by omega, rfl, by go_num, rfl, HR⟩
        case measure => simp [intOf]; omega
    by_cases h1 : K = 1
    . subst h1
      obtain ⟨r, hr⟩ : ∃ r, p.arm n 1 h 18446744073709551615 = r := ⟨_, rfl⟩
      have HOK := Hd (HR.out.amok hkm (d := 18446744073709551615) (by decide) (by decide) hr)
      have CA := Hd (fun w' (R : jM w w' mb n m q C p gv bk ev dv c h L) => R.dis hkm hr)
      have CD := Hd (fun C2 w' (X : M14 w w' mb n m q C2 p r.p gv bk ev dv c h (lP 18446744073709551615 r.e)) => X.doc hkm (d := 18446744073709551615) (by decide) (by decide) hr)
      clear hr
      have up := HOK.out.up
      obtain ⟨rp, E⟩ := r
      simp only at up HOK CA CD
      obtain ⟨L2, hL2⟩ : ∃ L2, lP 18446744073709551615 E = L2 := ⟨_, rfl⟩
      rw [hL2] at CA CD
      have HL2 := Hd hL2
      clear hL2
      have x1 : W1.cell? ⟨ab, 1, none⟩ = some (.int .u64 D) := by have := aA HA.out 1; simpa using this
      go_upto_region 23 with (go_at_call 11; refine (CA.out _ HR.out).mono ?_; rintro e W2 ⟨rfl, C2, X2⟩; have HX := Hd X2; clear X2 CA HR x0 x1)
      go_upto_region 24 with (first
       | (refine mN rfl (.tmp 10) rfl rfl HX.out.N ?_)
       | (go_at_call 13; refine (CD.out _ _ HX.out).mono ?_; rintro e W3 ⟨bk3, ev3, rfl, M3, hb⟩; have HM := Hd M3; have HX := Hd (HX.out.below hb); clear M3 hb CD)
       | (rw [bH]; refine nD rfl (.tmp 18) (.tmp 103) rfl rfl rp bk3 ev3 dv n rfl (ZP.new W3 (aD W3 dI)) ⟨HM.out.one.1, HM.out.one.2, HX.out.F.G.one⟩ ?_; intro W4 hq4 ho4; have hb4 := aF.toBelow (aE (aH W3) dI) ho4 (fun k hk e => by omega) (Nat.le_refl _); have HNX := Hd hq4; have HM := Hd (HM.out.below hb4); have HX := Hd (HX.out.below hb4); clear hq4 ho4 hb4))
      generalize W3.heap.size = nx at *
      go_upto_region 25 with (first
       | (refine mN rfl (.tmp 18) rfl rfl HNX.out ?_)
       | (refine nD rfl (.tmp 10) (.tmp 105) rfl rfl rp bk3 ev3 dv n rfl HX.out.N.z ⟨HM.out.one.1, HM.out.one.2, HX.out.F.G.one⟩ ?_; intro W5 hq5 ho5; have HR := Hd (HX.out.done HOK.out hkm HM.out hq5 ho5); clear hq5 ho5 HM HX HNX))
      have xE : (E != E) = false := bne_self_eq_false _
      rcases up with rfl | rfl
      . have hL : 18446744073709551615 = L2 := by rw [<- HL2.out]; unfold lP; rw [if_pos rfl]
        subst hL
        clear HL2 HOK
        obtain ⟨bb, hbb⟩ : ∃ bb, oR rp.x.ti n rp.x.D h = bb := ⟨_, rfl⟩
        have CA := Hd (fun w' (R : jM w w' mb n (m + 3) q C2 rp gv bk3 ev3 dv c h 18446744073709551615) => R.armed)
        have CP := Hd (fun w' (R : jM w w' mb n (m + 3) q C2 rp gv bk3 ev3 dv c h 18446744073709551615) => R.pend hbb)
        have CL := Hd (HR.out.line hbb)
        have CK := Hd (fun w' (R : jM w w' mb n (m + 3) q C2 rp gv bk3 ev3 dv c h 18446744073709551615) => R.alike)
        have mL : (18446744073709551615 != 18446744073709551615) = false := bne_self_eq_false _
        have mB : (bb != bb) = false := bne_self_eq_false _
        clear hbb
        have hg := bC
        go_upto_region 41 with (fail)
        refine wp_region_quiet_below (by kernel_rfl) (by kernel_rfl) ?_
        repeat (first
         | go_big_quiet_skip
         | (go_big_quiet_want; first
             | (refine uX (.tmp 149) rfl rfl HR.out.P.N.grown ?_; go_simp; go_big_quiet_on)
             | (refine uW (.tmp 10) rfl rfl HR.out.P.N.grown ?_; go_simp; go_big_quiet_on)
             | (go_big_quiet_op; first | go_big_quiet_on | go_big_quiet_call (first
                 | (go_at_call 16; exact Calls.regrown_of (CA.out _ (HR.out.below (below_regrown W5 _ _))))
                 | (go_at_call 17; exact Calls.regrown_of (CP.out _ (HR.out.below (below_regrown W5 _ _))))
                 | (go_at_call 18; exact Calls.regrown_of (CL.out _))
                 | (go_at_call 19; exact Calls.regrown_of (CK.out _ (HR.out.below (below_regrown W5 _ _))))))))
        refine wpQuiet_nil ?_
        intro _ hw'
        obtain ⟨⟨dq, osq⟩, hw''⟩ := hw'
        subst hw''
        have HR := Hd (HR.out.below (below_regrown W5 dq osq))
        clear CA CP CL CK mL mB hg
        dsimp only at HR ⊢
        generalize grow (redrawn W5 dq) osq = W9 at *
        go_wp2_with fail
        go_roundw
        case rel => exact ⟨k + 1, m + 3, C2, rp, gv, bk3, ev3, dv, 18446744073709551615, by omega, by omega, by omega, rfl, by go_num, rfl, HR⟩
        case measure => simp [intOf]; omega
      . have hL : 18446744073709551615 = L2 := by rw [<- HL2.out]; unfold lP; rw [if_neg (by decide)]
        subst hL
        clear HL2 HOK
        obtain ⟨bb, hbb⟩ : ∃ bb, oR rp.x.ti n rp.x.D h = bb := ⟨_, rfl⟩
        have CA := Hd (fun w' (R : jM w w' mb n (m + 3) q C2 rp gv bk3 ev3 dv c h 18446744073709551615) => R.armed)
        have CP := Hd (fun w' (R : jM w w' mb n (m + 3) q C2 rp gv bk3 ev3 dv c h 18446744073709551615) => R.pend hbb)
        have CL := Hd (HR.out.line hbb)
        have CK := Hd (fun w' (R : jM w w' mb n (m + 3) q C2 rp gv bk3 ev3 dv c h 18446744073709551615) => R.alike)
        have mL : (18446744073709551615 != 18446744073709551615) = false := bne_self_eq_false _
        have mB : (bb != bb) = false := bne_self_eq_false _
        clear hbb
        have hg := bC
        go_upto_region 41 with (fail)
        refine wp_region_quiet_below (by kernel_rfl) (by kernel_rfl) ?_
        repeat (first
         | go_big_quiet_skip
         | (go_big_quiet_want; first
             | (refine uX (.tmp 149) rfl rfl HR.out.P.N.grown ?_; go_simp; go_big_quiet_on)
             | (refine uW (.tmp 10) rfl rfl HR.out.P.N.grown ?_; go_simp; go_big_quiet_on)
             | (go_big_quiet_op; first | go_big_quiet_on | go_big_quiet_call (first
                 | (go_at_call 16; exact Calls.regrown_of (CA.out _ (HR.out.below (below_regrown W5 _ _))))
                 | (go_at_call 17; exact Calls.regrown_of (CP.out _ (HR.out.below (below_regrown W5 _ _))))
                 | (go_at_call 18; exact Calls.regrown_of (CL.out _))
                 | (go_at_call 19; exact Calls.regrown_of (CK.out _ (HR.out.below (below_regrown W5 _ _))))))))
        refine wpQuiet_nil ?_
        intro _ hw'
        obtain ⟨⟨dq, osq⟩, hw''⟩ := hw'
        subst hw''
        have HR := Hd (HR.out.below (below_regrown W5 dq osq))
        clear CA CP CL CK mL mB hg
        dsimp only at HR ⊢
        generalize grow (redrawn W5 dq) osq = W9 at *
        go_wp2_with fail
        go_roundw
        case rel => exact ⟨k + 1, m + 3, C2, rp, gv, bk3, ev3, dv, 18446744073709551615, by omega, by omega, by omega, rfl, by go_num, rfl, HR⟩
        case measure => simp [intOf]; omega
    by_cases h2 : K = 2
    . subst h2
      go_upto_region 32 with (go_at_call 14; refine (HR.out.lost).mono ?_; rintro e W2 ⟨rfl, R2⟩; have HR := Hd R2; clear R2 x0)
      obtain ⟨bb, hbb⟩ : ∃ bb, oR p.x.ti n p.x.D h = bb := ⟨_, rfl⟩
      have CA := Hd (fun w' (R : jM w w' mb n (m) q C p gv bk ev dv c h 18446744073709551615) => R.armed)
      have CP := Hd (fun w' (R : jM w w' mb n (m) q C p gv bk ev dv c h 18446744073709551615) => R.pend hbb)
      have CL := Hd (HR.out.line hbb)
      have CK := Hd (fun w' (R : jM w w' mb n (m) q C p gv bk ev dv c h 18446744073709551615) => R.alike)
      have mL : (18446744073709551615 != 18446744073709551615) = false := bne_self_eq_false _
      have mB : (bb != bb) = false := bne_self_eq_false _
      clear hbb
      have hg := bC
      go_upto_region 41 with (fail)
      refine wp_region_quiet_below (by kernel_rfl) (by kernel_rfl) ?_
      repeat (first
       | go_big_quiet_skip
       | (go_big_quiet_want; first
           | (refine uX (.tmp 149) rfl rfl HR.out.P.N.grown ?_; go_simp; go_big_quiet_on)
           | (refine uW (.tmp 10) rfl rfl HR.out.P.N.grown ?_; go_simp; go_big_quiet_on)
           | (go_big_quiet_op; first | go_big_quiet_on | go_big_quiet_call (first
               | (go_at_call 16; exact Calls.regrown_of (CA.out _ (HR.out.below (below_regrown W2 _ _))))
               | (go_at_call 17; exact Calls.regrown_of (CP.out _ (HR.out.below (below_regrown W2 _ _))))
               | (go_at_call 18; exact Calls.regrown_of (CL.out _))
               | (go_at_call 19; exact Calls.regrown_of (CK.out _ (HR.out.below (below_regrown W2 _ _))))))))
      refine wpQuiet_nil ?_
      intro _ hw'
      obtain ⟨⟨dq, osq⟩, hw''⟩ := hw'
      subst hw''
      have HR := Hd (HR.out.below (below_regrown W2 dq osq))
      clear CA CP CL CK mL mB hg
      dsimp only at HR ⊢
      generalize grow (redrawn W2 dq) osq = W9 at *
      go_wp2_with fail
      go_roundw
      case rel => exact ⟨k + 1, m, C, p, gv, bk, ev, dv, 18446744073709551615, by omega, by omega, by omega, rfl, by go_num, rfl, HR⟩
      case measure => simp [intOf]; omega
    by_cases h3 : K = 3
    . subst h3
      have x2 : W1.cell? ⟨ab, 2, none⟩ = some (.int .i64 K2) := by have := aA HA.out 2; simpa using this
      have x3 : W1.cell? ⟨ab, 3, none⟩ = some (.int .u32 a2) := by have := aA HA.out 3; simpa using this
      have x4 : W1.cell? ⟨ab, 4, none⟩ = some (.int .u32 v2) := by have := aA HA.out 4; simpa using this
      have x5 : W1.cell? ⟨ab, 5, none⟩ = some (.slice ay al ac) := by have := aA HA.out 5; simpa using this
      have x6 : W1.cell? ⟨ab, 6, none⟩ = some (.int .u64 N) := by have := aA HA.out 6; simpa using this
      obtain ⟨g7, hg7⟩ : ∃ g7, min al 64 = g7 := ⟨_, rfl⟩
      have hgl7 : g7 <= al := by omega
      have hmin : min (al : Int) 64 = (g7 : Int) := by omega
      have hcut := aNv ay al ac g7 hgl7 HRW.out.1
      have HG7 := Hd hgl7
      clear hg7 hgl7
      go_upto_region 35 with (fail)
      rw [show Obj.cells #[.int .i64 K2, .int .u32 a2, .int .u32 v2, .slice ay al ac, .int .u64 N] 52 (0, 0) = hJ K2 a2 v2 (.slice ay al ac) N from rfl]
      have HB2 := Hd (aD W1 (hJ K2 a2 v2 (.slice ay al ac) N))
      have HBL := Hd (aE (aH W1) (hJ K2 a2 v2 (.slice ay al ac) N))
      generalize W1.alloc (hJ K2 a2 v2 (.slice ay al ac) N) = W2 at *
      generalize hxb : W1.heap.size = xb at *
      have HXB := Hd hxb
      clear hxb x0 x2 x3 x4 x5 x6
      have y3 : W2.cell? ⟨xb, 3, none⟩ = some (.slice ay al ac) := by have := aA HB2.out 3; simpa using this
      have f3 := aK HB2.out 3
      have hlx := lt_of_block HB2.out
      go_upto_region 36 with (fail)
      have HB3 := Hd (show (W2.setCell ⟨xb, 3, none⟩ (.slice ay g7 ac)).heap[xb]? = some (hJ K2 a2 v2 (.slice ay g7 ac) N) from by rw [aR HB2.out]; rfl)
      have HR := Hd (HR.out.below (show Below W1.heap.size W1 (W2.setCell ⟨xb, 3, none⟩ (.slice ay g7 ac)) from by rw [HXB.out]; exact HBL.out.setCell (p := ⟨xb, 3, none⟩) (Nat.le_refl _) _))
      clear y3 f3 hlx hmin hcut HB2 HBL HXB
      generalize W2.setCell ⟨xb, 3, none⟩ (.slice ay g7 ac) = W3 at *
      have z0 : W3.cell? ⟨xb, 0, none⟩ = some (.int .i64 K2) := by have := aA HB3.out 0; simpa using this
      by_cases h5 : K2 = 5
      . subst h5
        go_wp2_with fail
        go_roundw
        case rel => exact ⟨k + 1, m, C, p, gv, bk, ev, dv, L, by omega, by omega, by omega, rfl, by go_num, rfl, HR⟩
        case measure => simp [intOf]; omega
      . have h5f : (K2 == 5) = false := by simpa using h5
        obtain ⟨gsA, hgn, hgb, hga⟩ := HRW.out.gaps HR.out.P.lo g7 HG7.out
        subst hgn
        have HGA := Hd hga
        have HGG := Hd hgb
        have H5 := Hd h5
        clear hga hgb h5
        have z1 : W3.cell? ⟨xb, 1, none⟩ = some (.int .u32 a2) := by have := aA HB3.out 1; simpa using this
        have z2 : W3.cell? ⟨xb, 2, none⟩ = some (.int .u32 v2) := by have := aA HB3.out 2; simpa using this
        have z3 : W3.cell? ⟨xb, 3, none⟩ = some (.slice ay gsA.length ac) := by have := aA HB3.out 3; simpa using this
        have z4 : W3.cell? ⟨xb, 4, none⟩ = some (.int .u64 N) := by have := aA HB3.out 4; simpa using this
        go_upto_region 39 with (first
         | (refine mN rfl (.tmp 10) rfl rfl HR.out.P.N ?_)
         | (go_at_call 15; refine (show Calls _ _ _ _ _ from aP5 ⟨HR.out.P.bo, by omega, HGA.out, HGG.out, HNB.out.1, HNB.out.2, HAV.out.1.1, HAV.out.1.2, HAV.out.2.1, HAV.out.2.2⟩).mono ?_; rintro e W4 ⟨q4, C4, p4, gv4, bk4, ev4, dv4, rfl, hbo, hlo, hkq, hqq⟩; have hq4 := (hqq H5.out).symm; subst hq4; have HBO := Hd hbo; have HN4 := Hd (HR.out.P.N.kq hkq); have HLO := Hd (HR.out.P.lo.trans hlo); have HPB := Hd HR.out.P.hp; have HK4 := Hd (show gD W4 c q h L from hkq _ _ _ _ HR.out.K (by decide) rfl); have HCN := Hd (And.intro HR.out.hc HR.out.hn); clear hbo hlo hqq hkq HR z0 z1 z2 z3 z4)
         | (refine nD rfl (.tmp 10) (.tmp 137) rfl rfl p4 bk4 ev4 dv4 n rfl HN4.out.z ⟨HBO.out.F.M.one.1, HBO.out.F.M.one.2, HBO.out.F.G.one⟩ ?_; intro W5 hq5 ho5; have HR := Hd (show jM w W5 mb n (m + 1) q C4 p4 gv4 bk4 ev4 dv4 c h L from ⟨⟨HBO.out.offP ho5 HN4.out HPB.out, hq5, aF.toBelow HLO.out ho5 (fun j hj e => by have := HPB.out; omega) (Nat.le_refl _), HPB.out⟩, HK4.out.offP ho5 HN4.out, HCN.out.1, HCN.out.2⟩); clear hq5 ho5 HBO HN4 HLO HPB HK4 HCN))
        obtain ⟨bb, hbb⟩ : ∃ bb, oR p4.x.ti n p4.x.D h = bb := ⟨_, rfl⟩
        have CA := Hd (fun w' (R : jM w w' mb n (m + 1) q C4 p4 gv4 bk4 ev4 dv4 c h L) => R.armed)
        have CP := Hd (fun w' (R : jM w w' mb n (m + 1) q C4 p4 gv4 bk4 ev4 dv4 c h L) => R.pend hbb)
        have CL := Hd (HR.out.line hbb)
        have CK := Hd (fun w' (R : jM w w' mb n (m + 1) q C4 p4 gv4 bk4 ev4 dv4 c h L) => R.alike)
        have mL : (L != L) = false := bne_self_eq_false _
        have mB : (bb != bb) = false := bne_self_eq_false _
        clear hbb
        have hg := bC
        go_upto_region 41 with (fail)
        refine wp_region_quiet_below (by kernel_rfl) (by kernel_rfl) ?_
        repeat (first
         | go_big_quiet_skip
         | (go_big_quiet_want; first
             | (refine uX (.tmp 149) rfl rfl HR.out.P.N.grown ?_; go_simp; go_big_quiet_on)
             | (refine uW (.tmp 10) rfl rfl HR.out.P.N.grown ?_; go_simp; go_big_quiet_on)
             | (go_big_quiet_op; first | go_big_quiet_on | go_big_quiet_call (first
                 | (go_at_call 16; exact Calls.regrown_of (CA.out _ (HR.out.below (below_regrown W5 _ _))))
                 | (go_at_call 17; exact Calls.regrown_of (CP.out _ (HR.out.below (below_regrown W5 _ _))))
                 | (go_at_call 18; exact Calls.regrown_of (CL.out _))
                 | (go_at_call 19; exact Calls.regrown_of (CK.out _ (HR.out.below (below_regrown W5 _ _))))))))
        refine wpQuiet_nil ?_
        intro _ hw'
        obtain ⟨⟨dq, osq⟩, hw''⟩ := hw'
        subst hw''
        have HR := Hd (HR.out.below (below_regrown W5 dq osq))
        clear CA CP CL CK mL mB hg
        dsimp only at HR ⊢
        generalize grow (redrawn W5 dq) osq = W9 at *
        go_wp2_with fail
        go_roundw
        case rel => exact ⟨k + 1, m + 1, C4, p4, gv4, bk4, ev4, dv4, L, by omega, by omega, by omega, rfl, by go_num, rfl, HR⟩
        case measure => simp [intOf]; omega
    have f0 : (K == 0) = false := by simpa using h0
    have f1 : (K == 1) = false := by simpa using h1
    have f2 : (K == 2) = false := by simpa using h2
    have f3 : (K == 3) = false := by simpa using h3
    clear h0 h1 h2 h3
    obtain ⟨bb, hbb⟩ : ∃ bb, oR p.x.ti n p.x.D h = bb := ⟨_, rfl⟩
    have CA := Hd (fun w' (R : jM w w' mb n (m) q C p gv bk ev dv c h L) => R.armed)
    have CP := Hd (fun w' (R : jM w w' mb n (m) q C p gv bk ev dv c h L) => R.pend hbb)
    have CL := Hd (HR.out.line hbb)
    have CK := Hd (fun w' (R : jM w w' mb n (m) q C p gv bk ev dv c h L) => R.alike)
    have mL : (L != L) = false := bne_self_eq_false _
    have mB : (bb != bb) = false := bne_self_eq_false _
    clear hbb
    have hg := bC
    go_upto_region 41 with (fail)
    refine wp_region_quiet_below (by kernel_rfl) (by kernel_rfl) ?_
    repeat (first
     | go_big_quiet_skip
     | (go_big_quiet_want; first
         | (refine uX (.tmp 149) rfl rfl HR.out.P.N.grown ?_; go_simp; go_big_quiet_on)
         | (refine uW (.tmp 10) rfl rfl HR.out.P.N.grown ?_; go_simp; go_big_quiet_on)
         | (go_big_quiet_op; first | go_big_quiet_on | go_big_quiet_call (first
             | (go_at_call 16; exact Calls.regrown_of (CA.out _ (HR.out.below (below_regrown W1 _ _))))
             | (go_at_call 17; exact Calls.regrown_of (CP.out _ (HR.out.below (below_regrown W1 _ _))))
             | (go_at_call 18; exact Calls.regrown_of (CL.out _))
             | (go_at_call 19; exact Calls.regrown_of (CK.out _ (HR.out.below (below_regrown W1 _ _))))))))
    refine wpQuiet_nil ?_
    intro _ hw'
    obtain ⟨⟨dq, osq⟩, hw''⟩ := hw'
    subst hw''
    have HR := Hd (HR.out.below (below_regrown W1 dq osq))
    clear CA CP CL CK mL mB hg
    dsimp only at HR ⊢
    generalize grow (redrawn W1 dq) osq = W9 at *
    go_wp2_with fail
    go_roundw
    case rel => exact ⟨k + 1, m, C, p, gv, bk, ev, dv, L, by omega, by omega, by omega, rfl, by go_num, rfl, HR⟩
    case measure => simp [intOf]; omega
  . by_cases hlt2 : k < len
    all_goals
     go_wp2_with (go_at_call 9; refine (aAT _).mono ?_; rintro e w5 ⟨rfl, hb⟩; have HX := Hd (tr HR.out.P.lo hb); clear hb)
     go_ret
     exact ⟨rfl, HX.out⟩
theorem wShotPlays (v0 v1 v2 v3 : Value) (w : World) (h0 : FitsV w (.int .i64) v0) (h1 : FitsV w (.int .i64) v1) (h2 : FitsV w (.slice (.int .u32)) v2) (h3 : FitsV w (.slice aKk) v3) :
 Calls prog 3 #[v0, v1, v2, v3] w fun e w' => e = .returned (.bool true) /\ Below w.heap.size w w' := by
 obtain ⟨a, rfl, _, _⟩ := fits_i64 h0
 obtain ⟨hh, rfl, _, _⟩ := fits_i64 h1
 obtain ⟨gy, gl, gc, rfl, hg⟩ := tW h2
 obtain ⟨y, len, cap, rfl, hy⟩ := aB6 h3
 obtain ⟨n, hN, n1, n8⟩ := sM a
 by_cases hr : hh < 0 \/ (n : Int) <= hh
 . by_cases h0 : hh < 0
   . exact aAV w a hh gy gl gc hg n hN n1 n8 h0 y len cap
   . exact aAW w a hh gy gl gc hg n hN n1 n8 h0 (by omega) y len cap
 . obtain ⟨h, rfl⟩ := Int.eq_ofNat_of_zero_le (show 0 <= hh by omega)
   exact aC8 w a gy gl gc hg n h hN n1 n8 (by omega) y len cap hy
end Go.Proofs.YtaohacadochldaaGreat.B
